"""Rows of steps and how they are read ([70], [71])."""

import random
import unittest

from sealshelf.errors import InvalidText
from sealshelf.rowreadings import read_log, read_step
from sealshelf.steprows import log_rows, step_row
from tests import naivelive
from tests.making import told
from tests.naivelive import led_log
from tests.test_livesteps import STEPS

ROWS = ("come ann", "begin memo ann", "begin memo ann,bob bob", "go memo 0 ann", "leak 0", "renew ann", "look ann 0", "take 0",
        "write memo", "turn memo 0 ann new 0", "turn -", "stop 1 a 1 ann,bob on - b 0 ann new 0,5", "stop 0 -")
WORDS = ("", "-", "come", "on", "new", "ann", "ann,bob", "ann,", ",ann", "ann,,bob", "Ann", "toolongname", "0", "1", "10", "01",
         "-1", "+1", "0,1", "1,0", "0,", ",0", "0,,1", "1" * 60, "1" * 61, "0" * 2, "memo.0", "ann\n", "\nann", "1\n", "x y", "/",
         "on,", "one", "world", "1,1", "eighteen", "nineteens", "ann, bob", "1_0", "\n")


class Rows(unittest.TestCase):
    def raises(self, field, text, row=0):
        with self.assertRaises(InvalidText) as caught:
            read_step(text, row=row)
        self.assertEqual((caught.exception.row, caught.exception.field), (row, field), repr(text))

    def agrees(self, text):
        """The reading does with this string what the plain one does."""
        wanted = naivelive.read(text)
        got = told(read_step, text)
        self.assertEqual(got, ("InvalidText", 0, wanted) if isinstance(wanted, int) else wanted, repr(text))
        if not isinstance(wanted, int):
            self.assertEqual(repr(got), repr(wanted))
            self.assertEqual(step_row(got), text)
        return isinstance(wanted, int)

    def test_example(self):
        self.assertEqual(step_row(("turn", (("memo", 0, ("ann", "bob")),), (("new", (0, 1)),))), "turn memo 0 ann,bob new 0,1")
        self.assertEqual([read_step("stop 1 memo 0 ann on -"), read_step("begin memo ann bob"), read_step("turn -")],
                         [("stop", (("memo", 0, ("ann",)),), (("on", ()),), 1), ("begin", "memo", (("ann",), ("bob",))),
                          ("turn", (), ())])
        self.raises(5, "turn memo 0 ann on")

    def test_rows(self):
        self.assertEqual([step_row(step) for step in STEPS], list(ROWS))
        self.assertEqual([read_step(row) for row in ROWS], list(STEPS))
        self.assertEqual(log_rows(STEPS), list(ROWS))
        self.assertEqual([log_rows(()), type(log_rows(STEPS)), type(read_log(list(ROWS)))], [[], list, tuple])
        self.assertEqual([read_log(list(ROWS)), read_log([])], [STEPS, ()])

    def test_in_their_order(self):
        step = ("turn", (("b", 1, ("bob", "ann", "bob")), ("a", 0, ("x",))), (("on", (3, 1, 1)), ("new", ())))
        self.assertEqual(step_row(step), "turn b 1 bob,ann,bob on 3,1,1 a 0 x new -")
        self.assertEqual(read_step(step_row(step)), step)

    def test_first_word_that_cannot_stand(self):
        for text, field in (("", 0), (" ", 0), ("come", 1), ("come ", 1), (" come ann", 0), ("come  ann", 1), ("come ann ", 2),
                            ("come ann bob", 2), ("come Ann", 1), ("come -", 1), ("Come ann", 0), ("-", 0), ("comes ann", 0),
                            ("begin memo", 2), ("begin", 1), ("begin memo ann bob cy", 4), ("begin memo -", 2),
                            ("begin memo ann -", 3), ("begin memo ann ", 3), ("begin memo ann,", 2), ("begin 0 ann", 1),
                            ("go memo 0", 3), ("go memo ann 0", 2), ("go memo 00 ann", 2), ("go memo 0 ann bob", 4),
                            ("leak", 1), ("leak -", 1), ("leak 0,1", 1), ("leak -1", 1), ("leak +1", 1), ("leak 1.0", 1),
                            ("look 0 ann", 1), ("look ann", 2), ("take", 1), ("write memo.0", 1), ("write", 1),
                            ("turn", 1), ("turn ", 1), ("turn - ", 2), ("turn - -", 2), ("turn - memo", 2), ("turn memo", 2),
                            ("turn memo 0", 3), ("turn memo 0 ann", 4), ("turn memo 0 - on -", 3), ("turn memo 0 ann off -", 4),
                            ("turn memo 0 ann on 0,", 5), ("turn memo 0 ann on - -", 6), ("turn memo 0 ann on - b", 7),
                            ("turn memo 0 ann on - b 0 bob new 1 ", 11), ("turn memo 0 ann on - b 0 bob new", 10),
                            ("stop", 1), ("stop -", 1), ("stop 1", 2), ("stop 1 ", 2), ("stop 1 - -", 3), ("stop memo 0 ann on -", 1),
                            ("stop 1 memo 0 ann on", 6), ("stop 1 memo 0 ann on - x", 8), ("stop 1 memo 0 ann on - ", 7),
                            ("put 0:1", 0), ("undo", 0), ("come ann\n", 1), ("come\nann", 0), ("\ncome ann", 0), ("turn\n-", 0),
                            ("turn -\n", 1), ("leak 1\n", 1)):
            self.raises(field, text)
            self.raises(field, text, row=7)

    def test_names_like_words(self):
        for text in ("come come", "begin turn on,new", "go go 0 go", "turn on 0 new on - new 0 on new 1", "write try",
                     "begin world world", "stop 3 stop 0 stop on -"):
            self.assertEqual(step_row(read_step(text)), text)

    def test_digits(self):
        self.assertEqual(read_step("leak " + "9" * 60), ("leak", int("9" * 60)))
        self.raises(1, "leak " + "9" * 61)
        self.raises(2, "go memo " + "9" * 61 + " ann")
        self.raises(5, "turn memo 0 ann on 1," + "9" * 61)
        self.raises(1, "stop " + "1" * 61 + " -")
        self.assertEqual(read_step("turn memo 0 ann on 1," + "9" * 60)[2], (("on", (1, int("9" * 60))),))

    def test_words_changed_at_one_place(self):
        wrong = 0
        for text in ROWS:
            words = text.split(" ")
            for k in range(len(words) + 1):
                for word in WORDS:
                    wrong += self.agrees(" ".join(words[:k] + [word] + words[k + 1:]))
                    wrong += self.agrees(" ".join(words[:k] + [word] + words[k:]))
                self.agrees(" ".join(words[:k]))
                self.agrees(" ".join(words[:k] + words[k + 1:]))
        self.assertGreater(wrong, 3000)

    def test_drawn_words(self):
        rng = random.Random(5)
        heads = ("come", "begin", "go", "leak", "renew", "look", "take", "write", "turn", "stop")
        for _ in range(4000):
            self.agrees(" ".join([rng.choice(heads)] + [rng.choice(WORDS) for _ in range(rng.randrange(13))]))
        for _ in range(2000):
            goals = [("memo", "0", "ann,bob", "on", "1"), ("b", "1", "ann", "new", "-")] * 3
            words = [word for goal in goals[:rng.randrange(4)] for word in goal]
            words = words[:len(words) - rng.randrange(3)] + [rng.choice(WORDS)] * rng.randrange(2)
            self.agrees(" ".join(["stop", "4"] * rng.randrange(2) + ["turn"] * rng.randrange(2) + words))

    def test_first_row_that_is_not_valid(self):
        for rows, wanted in ((["come ann", "come", "nothing"], (1, 1)), (["", "come"], (0, 0)), (["come ann", "", "x"], (1, 0)),
                             (["come ann", "begin memo ann", "turn memo 0 ann on"], (2, 5)), (["come ann\ncome bob"], (0, 1))):
            self.assertEqual(told(read_log, rows), ("InvalidText", *wanted))

    def test_whether_a_step_is_barred_is_not_checked(self):
        self.assertEqual(read_log(["take 9", "come world", "stop 0 -"]), (("take", 9), ("come", "world"), ("stop", (), (), 0)))

    def test_drawn_logs(self):
        for seed in range(60):
            log, _ = led_log(seed)
            rows = log_rows(log)
            self.assertEqual(rows, [naivelive.row(step) for step in log])
            self.assertEqual([read_log(rows), log_rows(read_log(rows))], [log, rows])

    def test_arguments_are_left_as_they_are(self):
        rows = ["come ann", "leak 0"]
        read_log(rows)
        self.assertEqual(rows, ["come ann", "leak 0"])

    def test_arguments_by_name(self):
        self.assertEqual([step_row(step=STEPS[0]), log_rows(log=STEPS[:1]), read_step(row=3, text="leak 1"), read_log(rows=[])],
                         ["come ann", ["come ann"], ("leak", 1), ()])
