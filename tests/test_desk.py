"""Desks: Vaults that are led and asked by strings ([74], [76])."""

import random
import re
import unittest

from sealshelf.desk import Desk
from sealshelf.errors import InvalidCommand, InvalidStep, NothingToUndo, UnknownHolder
from sealshelf.replaying import replayed
from sealshelf.steprows import log_rows, step_row
from sealshelf.texts import box_text
from tests import naivelive
from tests.making import told
from tests.naivelive import PATTERNS, led_log
from tests.naivetimes import WORDS

FIRST = ("come ann", "come bob", "come cy", "begin memo ann,bob", "turn memo 0 ann,bob new 0,1", "write memo")
ALONE = ("due", "holders", "records", "lying", "needless", "room", "exposed", "undo", "count", "log", "table", "new")


def first():
    desk = Desk()
    for text in FIRST:
        desk.say(text)
    return desk


class Desks(unittest.TestCase):
    def invalid(self, desk, text):
        with self.assertRaises(InvalidCommand) as caught:
            desk.say(text)
        self.assertEqual(caught.exception.text, text)

    def test_example(self):
        desk = Desk()
        self.assertEqual([desk.say("come ann"), desk.say("begin memo ann"), desk.say("turnfor memo 0 ann"), desk.say("write memo")],
                         ["0", "ok", "1", "memo.0"])
        self.assertEqual([desk.say("leads memo"), desk.say("had ann now"), desk.say("table")],
                         ["1", "0,1 memo.0", "memo  memo.0  ann=1  good"])

    def test_a_vault_without_steps(self):
        desk = Desk()
        self.assertEqual([desk.say(text) for text in ALONE if text not in ("undo", "new")],
                         ["-", "-", "-", "-", "-", "0", "-", "0", "-", "-"])
        self.assertEqual([desk.say("had - now"), desk.say("had world copied"), desk.say("box 0"), desk.say("turn -"), desk.say("new"),
                          desk.say("bars turn -"), desk.say("try turn -"), desk.say("count")],
                         ["- -", "- -", "-", "0", "ok", "-", "0", "0"])

    def test_rows(self):
        desk = Desk()
        self.assertEqual([desk.say(text) for text in FIRST], ["0", "1", "2", "ok", "2", "memo.0"])
        self.assertEqual([desk.say("look ann 0"), desk.say("look ann 2"), desk.say("stop 1 memo 0 ann,bob,cy new 2,3"),
                          desk.say("renew cy"), desk.say("go memo 0 bob"), desk.say("take 1"), desk.say("leak 1")],
                         ["3", "memo.0", "ok", "5", "ok", "ok", "ok"])
        self.assertEqual(desk.say("log"), " / ".join(FIRST) + " / look ann 0 / look ann 2 / stop 1 memo 0 ann,bob,cy new 2,3"
                         " / renew cy / go memo 0 bob / take 1 / leak 1")

    def test_barred_steps(self):
        desk = first()
        for text, step, word in (("come ann", ("come", "ann"), "there"), ("come world", ("come", "world"), "name"),
                                 ("take 0", ("take", 0), "open"), ("turn memo 0 ann on -", (
                                     "turn", (("memo", 0, ("ann",)),), (("on", ()),)), "goals"), ("stop 0 -", ("stop", (), (), 0), "many"),
                                 ("begin a bob,ann", ("begin", "a", (("bob", "ann"),)), "sides")):
            self.assertEqual(desk.say("bars " + text), word)
            with self.assertRaises(InvalidStep) as caught:
                desk.say(text)
            self.assertEqual((caught.exception.step, caught.exception.word), (step, word))
        self.assertEqual([desk.say("bars write memo"), desk.say("bars leak 0"), desk.say("count")], ["-", "-", "6"])

    def test_try(self):
        desk = first()
        self.assertEqual([desk.say("try write memo"), desk.say("try write memo / write memo / leak 0"), desk.say("try turn -"),
                          desk.say("try go memo 0 bob / take 1 / turn -"), desk.say("count"), desk.say("room")],
                         ["4", "5", "3", "2", "6", "3"])
        self.assertEqual(told(desk.say, "try leak 0 / write memo"), ("InvalidStep", ("write", "memo"), "lead"))
        for text in ("try", "try ", "try  ", "try /", "try  / ", "try leak 0 /", "try leak 0 / ", "try / leak 0", "try  / leak 0",
                     "try leak 0/leak 1", "try leak 0 leak 1", "try leak 0 // leak 1", "try leak 0 /  leak 1", "try leak 0  / leak 1",
                     "try leak", "try due", "try leak 0 / due", "try leak 0\nleak 1", "try try leak 0"):
            self.invalid(desk, text)

    def test_turnfor(self):
        desk = first()
        self.assertEqual([desk.say("turnfor memo 0 ann,bob,cy"), desk.say("turnfor memo 0 ann,bob,cy")], ["1", "0"])
        self.assertEqual(desk.say("log").split(" / ")[6:], ["turn memo 0 ann,bob,cy on 2", "turn memo 0 ann,bob,cy on -"])
        desk.say("begin a ann")
        self.assertEqual(desk.say("turnfor a 0 ann,bob memo 0 ann,bob,cy"), "2")
        goals = (("memo", 0, ("ann",)),)
        self.assertEqual(told(desk.say, "turnfor memo 0 ann"), ("InvalidStep", ("turn", goals), "goals"))
        goals = (("memo", 0, ("ann", "bob", "cy")), ("a", 0, ("ann", "bob")))
        self.assertEqual(told(desk.say, "turnfor memo 0 ann,bob,cy a 0 ann,bob"), ("InvalidStep", ("turn", goals), "goals"))
        desk.say("leak 0")
        self.assertEqual(told(desk.say, "turnfor a 0 ann,bob"), ("InvalidStep", ("turn", (("a", 0, ("ann", "bob")),)), "none"))
        for text in ("turnfor", "turnfor ", "turnfor memo", "turnfor memo 0", "turnfor memo 0 ann ", "turnfor memo 0 -", "turnfor -",
                     "turnfor memo 0 ann a", "turnfor memo 0 ann a 0", "turnfor memo 00 ann", "turnfor memo 0 ann,", "turnfor memo 0 ann on -",
                     "turnfor memo 0 ann / a 0 ann"):
            self.invalid(desk, text)

    def test_what_is_told(self):
        desk = first()
        desk.say("begin a ann cy")
        self.assertEqual([desk.say(text) for text in ("due", "holders", "records", "readers memo", "readers a", "leads memo", "leads a",
                                                      "newest memo", "newest a", "lying", "needless", "room", "exposed", "count")],
                         ["a.0=ann", "ann bob cy", "a memo", "ann,bob", "ann cy", "3", "- -", "memo.0", "-", "0,1,2", "-", "3", "-", "7"])
        self.assertEqual([desk.say(text) for text in ("box 0", "box 2", "box 3", "table", "had ann,bob now", "had cy,world logged",
                                                      "had bob remembered", "had - copied")],
                         ["3:0", "memo.0:3", "-", "a     -       ann=- cy=-  due / memo  memo.0  ann,bob=3   good",
                          "0,1,3 memo.0", "2 -", "1,3 memo.0", "- -"])
        for text in ("go memo 0 bob", "take 1", "leak 0", "write memo"):
            told(desk.say, text)
        self.assertEqual([desk.say(text) for text in ("due", "lying", "needless", "box 1", "exposed", "had bob now", "had bob copied",
                                                      "had cy,world now")],
                         ["a.0=ann memo.0=ann", "0,2", "-", "3:1", "memo.0", "1 -", "1,3 memo.0", "0,2,3 memo.0"])
        for text in ("renew ann", "turnfor memo 0 ann", "write memo"):
            desk.say(text)
        self.assertEqual([desk.say("exposed"), desk.say("newest memo"), desk.say("had ann now"), desk.say("needless")],
                         ["memo.0", "memo.1", "0,3,4,5 memo.0,memo.1", "0,2"])
        desk.say("leak 4")
        self.assertEqual(desk.say("exposed"), "memo.0 memo.1")

    def test_errors_of_the_vault(self):
        desk = first()
        for text in ("readers", "leads", "newest"):
            self.assertEqual(told(desk.say, text + " nothing"), ("InvalidStep", ("record", "nothing"), "record"))
        with self.assertRaises(UnknownHolder) as caught:
            desk.say("had ann,dee,zoe now")
        self.assertEqual(caught.exception.holder, "dee")
        self.assertEqual(told(desk.say, "had ann,ann now"), ("UnknownHolder", "ann"))
        with self.assertRaises(NothingToUndo) as caught:
            Desk().say("undo")
        self.assertEqual(caught.exception.count, 0)

    def test_undo(self):
        desk = first()
        self.assertEqual([desk.say("undo"), desk.say("undo"), desk.say("count"), desk.say("come dee")],
                         ["write memo", "turn memo 0 ann,bob new 0,1", "4", "3"])
        self.assertEqual([desk.say("undo") for _ in range(5)], ["come dee", "begin memo ann,bob", "come cy", "come bob", "come ann"])
        self.assertEqual(told(desk.say, "undo"), ("NothingToUndo", 0))

    def test_new(self):
        desk = first()
        self.assertEqual([desk.say("new"), desk.say("holders"), desk.say("log"), desk.say("come ann")], ["ok", "-", "-", "0"])
        self.assertEqual(desk.counts(), (10, 10))

    def test_counts(self):
        desk = Desk()
        self.assertEqual(desk.counts(), (0, 0))
        texts = ("come ann", "come ann", "", "nothing", "undo", "undo", "new", "count", "come\nann", "readers memo", "had zoe now",
                 "try leak 0", "bars leak 0", "turnfor a 0 ann", "new", "new ")
        for k, text in enumerate(texts):
            told(desk.say, text)
            self.assertEqual(desk.counts(), (k + 1, k + 1))
        self.assertEqual([Desk().counts(), type(desk.counts())], [(0, 0), tuple])

    def test_no_commands(self):
        desk = first()
        before = desk.say("log")
        for text in ("", " ", "\n", "nothing", "Due", "due ", " due", "due\n", "due due", "-", "ok", "step", "do", "put 0:1", "help", "barred",
                     "come", "come ann bob", "come  dee", "come dee ", "come Dee", "begin", "bars", "bars ", "bars due", "bars come",
                     "bars come ann ", "bars bars come ann", "bars come ann / come bob", "readers", "readers memo memo", "readers Memo",
                     "readers ", "readers -", "readers memo ", "leads", "leads memo.0", "leads memo memo", "newest", "newest 0",
                     "newest memo memo", "box", "box -", "box 00", "box 0 1", "box -1", "box 0,1", "box a", "box " + "1" * 61, "had", "had ann",
                     "had ann now now", "had ann often", "had Ann now", "had ann, now", "had  now", "had ann now ", "had -,ann now",
                     "had ann\nbob now", "had - Now", "had now", "come dee\nundo", "log\nlog", "turn", "turn memo 0 ann on", "stop -"):
            self.invalid(desk, text)
        for word in ALONE:
            for text in (word + " ", " " + word, word + " x", word + "  ", word + "\n", word + " -", word + " " + word, word.upper()):
                self.invalid(desk, text)
        self.assertEqual(desk.say("log"), before)

    def test_a_word_too_few_and_too_many(self):
        desk = first()
        for text in FIRST + ("go memo 0 bob", "leak 0", "renew ann", "look ann 0", "take 1", "stop 1 memo 0 ann,bob new 0,1",
                             "bars leak 0", "try leak 0 / leak 1", "turnfor memo 0 ann,bob", "readers memo", "leads memo", "newest memo",
                             "box 0", "had ann now"):
            words = text.split(" ")
            for k in range(len(words)):
                self.invalid(desk, " ".join(words[:k] + [""] + words[k:]))
            for wrong in (words[:-1], words + [""], words + ["\n"], words + ["x."]):
                self.invalid(desk, " ".join(wrong))

    def test_names_like_words(self):
        desk = Desk()
        self.assertEqual([desk.say(text) for text in ("come come", "come try", "begin undo come,try", "turnfor undo 0 come,try",
                                                      "write undo", "newest undo", "had come,try now", "readers undo", "due")],
                         ["0", "1", "ok", "2", "undo.0", "undo.0", "0,1,2 undo.0", "come,try", "-"])

    def test_drawn_logs(self):
        for seed in range(25):
            log, present = led_log(seed)
            desk = Desk()
            for step in log:
                desk.say(step_row(step))
            vault = replayed(log)
            names = vault.holders() + ("world",)
            told_by = naivelive.told_by(present)
            self.assertEqual(desk.say("log"), " / ".join(log_rows(log)))
            self.assertEqual([desk.say("lying"), desk.say("needless"), desk.say("room"), desk.say("count")],
                             [",".join(map(str, told_by["lying"])) or "-", ",".join(map(str, told_by["needless"])) or "-",
                              str(told_by["room"]), str(len(log))])
            self.assertEqual(desk.say("due"), " ".join(f"{record}.{side}={','.join(due)}" for record, side, due in told_by["due_goals"])
                             or "-")
            self.assertEqual(desk.say("exposed"), " ".join(f"{record}.{n}" for record, n in told_by["exposed"]) or "-")
            self.assertEqual(desk.say("table"), " / ".join(told_by["table"]) or "-")
            for b, box in enumerate(told_by["boxes"]):
                self.assertEqual(desk.say(f"box {b}"), box_text(box))
            for word in WORDS:
                for name in names:
                    keys, texts = vault.had((name,), word)
                    self.assertEqual(desk.say(f"had {name} {word}"), (",".join(map(str, keys)) or "-") + " " + (
                        ",".join(f"{record}.{n}" for record, n in texts) or "-"))
            self.assertEqual([desk.say("undo") for _ in log], log_rows(log)[::-1])

    def test_drawn_strings(self):
        # What is no command by the plain reading raises InvalidCommand, and all else never does.
        rng = random.Random(3)
        words = ["", "-", "ann", "ann,bob", "0", "1", "memo", "new", "on", "now", "logged", "/", "undo", "due", "had", "try", "bars", "leak",
                 "turnfor", "readers", "box", "turn", "stop", "01", "x\n", "world"]
        many = 0
        for _ in range(6000):
            text = " ".join(rng.choice(words[12:24] if k == 0 else words) for k in range(rng.randrange(1, 6)))
            got = told(first_like().say, text)
            invalid = got == ("InvalidCommand", text)
            self.assertIs(invalid, not is_command(text), repr(text))
            many += not invalid
        self.assertGreater(many, 200)

    def test_arguments_by_name(self):
        self.assertEqual(Desk().say(text="count"), "0")

    def test_all_that_is_listed_stands_in_the_class(self):
        for name in ("__init__", "say", "counts"):
            self.assertIn(name, vars(Desk))


def first_like():
    """A desk with few steps."""
    desk = Desk()
    for text in ("come ann", "come bob", "begin memo ann"):
        desk.say(text)
    return desk


def is_command(text):
    """Whether a string is a command, by plain patterns."""
    fixed = {"readers": ["name"], "leads": ["name"], "newest": ["name"], "box": ["number"], "had": ["group", "having"]}
    patterns = {**PATTERNS, "group": "(-|[a-z]{1,8}(,[a-z]{1,8})*)", "having": "(now|remembered|copied|logged)"}
    words = text.split(" ")
    if text in ALONE:
        return True
    if words[0] == "bars":
        return isinstance(naivelive.read(text[5:]), tuple) and len(words) > 1
    if words[0] == "try":
        return all(isinstance(naivelive.read(row), tuple) for row in text[4:].split(" / "))
    if words[0] == "turnfor":
        kinds = ["name", "number", "names"] * max(1, (len(words) - 1) // 3)
    elif words[0] in fixed:
        kinds = fixed[words[0]]
    else:
        return isinstance(naivelive.read(text), tuple)
    return len(words) == len(kinds) + 1 and all(re.fullmatch(patterns[kind], word) for kind, word in zip(kinds, words[1:]))
