"""Chronicles: histories as objects."""

import inspect
import unittest

from sealshelf.chronicles import Chronicle
from sealshelf.errors import InvalidMoment, InvalidPaper
from sealshelf.rings import Ring
from tests.making import WRONG, deep, told, variants
from tests.naivetimes import DAYS, MEMO, WORDS, had, history_error, holders, some_history, there
from tests.test_lyings import NO_MOMENTS


class Chronicles(unittest.TestCase):
    def test_example(self):
        days = Chronicle(*DAYS)
        self.assertEqual([len(days), days[4], days.knows(MEMO), days.knows(1), list(days.who(MEMO, "copied")),
                          days.until(7) == days, len(days.with_deed(("take", 1)))],
                         [7, (0, 1), False, True, ["bob"], True, 8])
        with self.assertRaises(InvalidPaper) as caught:
            days.with_deed(("take", 0))
        self.assertEqual([caught.exception.word, caught.exception.at], ["lies", 7])

    def test_no_deeds(self):
        empty = Chronicle()
        self.assertEqual([empty.deeds, len(empty), list(empty.walk()), empty[0], empty.knows(0), list(empty.who(0, "now")),
                          empty.until(0) == empty], [(), 0, [], (), False, [], True])

    def test_deeds_are_any_values(self):
        for value in WRONG + (deep(40), [], ("take", 0), ("hand", "world", 0), ("open", "bob", 1)):
            for deeds in ((value,), DAYS + (value,), (value,) + DAYS):
                wanted = history_error(deeds)
                wanted = ("InvalidPaper", *wanted) if isinstance(wanted, tuple) else wanted
                got = told(Chronicle, *deeds)
                self.assertEqual(len(got.deeds) if isinstance(got, Chronicle) else got,
                                 len(deeds) if isinstance(wanted, int) else wanted)
            wanted = history_error(DAYS + (value,))
            self.assertEqual(told(Chronicle(*DAYS).with_deed, value), ("InvalidPaper", *wanted))

    def test_never_changes(self):
        days = Chronicle(*DAYS)
        more = days.with_deed(("leak", 5))
        self.assertEqual([days.deeds, more.deeds, days.until(3).deeds], [DAYS, DAYS + (("leak", 5),), DAYS[:3]])
        self.assertEqual([type(days.deeds), type(more), type(days.until(3))], [tuple, Chronicle, Chronicle])
        told(days.with_deed, None)
        told(days.until, None)
        self.assertEqual(days.deeds, DAYS)
        with self.assertRaises(AttributeError):
            days.deeds = ()

    def test_walk(self):
        self.assertTrue(inspect.isgeneratorfunction(Chronicle.walk))
        walk = Chronicle(*DAYS).walk()
        self.assertEqual([next(walk), next(walk)], list(DAYS[:2]))
        self.assertEqual(list(Chronicle(*DAYS).walk()), list(DAYS))

    def test_index_tells_what_lies_there(self):
        for seed in range(60):
            history = some_history(seed)
            chronicle = Chronicle(*history)
            for moment in range(len(history) + 1):
                self.assertEqual(chronicle[moment], tuple(there(history, moment)))
                self.assertEqual(chronicle.until(moment).deeds, history[:moment])

    def test_no_moment(self):
        days = Chronicle(*DAYS)
        for moment in NO_MOMENTS + [slice(0, 2)]:
            for call in (lambda: days[moment], lambda: days.until(moment)):
                with self.assertRaises(InvalidMoment) as caught:
                    call()
                self.assertEqual(caught.exception.moment, moment)
                self.assertIs(type(caught.exception.moment), type(moment))

    def test_not_iterated(self):
        with self.assertRaises(TypeError):
            list(Chronicle(*DAYS))

    def test_knows(self):
        for seed in range(80):
            history = some_history(seed)
            chronicle = Chronicle(*history)
            alone = [had(history, (name,), len(history), "remembered") for name in holders(history) + ["world"]]
            for thing in (0, 1, 2, 3, 4, MEMO, ("memo", 1), 77):
                self.assertIs(chronicle.knows(thing), any(thing in things for things in alone))

    def test_world_alone_knows(self):
        self.assertEqual([Chronicle(("leak", 3)).knows(3), Chronicle(("leak", 3), ("put", (MEMO, (3,)))).knows(MEMO)],
                         [True, True])
        together = Chronicle(("hand", "ann", 0), ("leak", 1), ("put", (MEMO, (0, 1))))
        self.assertEqual([together.knows(MEMO), together.knows(0), together.knows(1)], [False, True, True])

    def test_knows_any_value(self):
        chronicle = Chronicle(("hand", "ann", 0), ("hand", "ann", 1), ("put", (MEMO, (0,))))
        for value in WRONG + (deep(40), [MEMO], {}, 1.0, chronicle, Ring(1)):
            wanted = type(value) is int and value in (0, 1) or type(value) is tuple and value == MEMO and type(
                value[1]) is int
            self.assertIs(chronicle.knows(value), wanted, repr(value))

    def test_who(self):
        self.assertTrue(inspect.isgeneratorfunction(Chronicle.who))
        for seed in range(80):
            history = some_history(seed)
            for word in WORDS:
                for thing in (0, 1, 3, MEMO):
                    self.assertEqual(list(Chronicle(*history).who(thing, word)),
                                     [name for name in holders(history) if thing in had(history, (name,), len(history), word)])

    def test_equal(self):
        self.assertTrue(Chronicle(*DAYS) == Chronicle(*DAYS))
        self.assertFalse(Chronicle(*DAYS) != Chronicle(*DAYS))
        self.assertTrue(Chronicle(*DAYS) != Chronicle(*DAYS[:6]))
        self.assertFalse(Chronicle(("leak", 0)) == Chronicle(("leak", 1)))
        self.assertTrue([Chronicle()] == [Chronicle()])
        for value in WRONG + (deep(40), DAYS, list(DAYS), [Chronicle(*DAYS)], Ring(), {1}, 1.5):
            for chronicle in (Chronicle(), Chronicle(*DAYS)):
                self.assertFalse(chronicle == value)
                self.assertFalse(value == chronicle)
                self.assertTrue(chronicle != value)

    def test_equal_deeds_have_equal_kinds(self):
        # What equals a deed but is of other kinds is no deed.
        for value in variants(("hand", "ann", 1)):
            if value == ("hand", "ann", 1) and type(value[2]) is not int:
                self.assertEqual(told(Chronicle, value), ("InvalidPaper", "shape", -1))
        self.assertEqual(told(Chronicle, ("leak", True)), ("InvalidPaper", "shape", -1))

    def test_all_that_is_listed_stands_in_the_class(self):
        for name in ("deeds", "__len__", "walk", "with_deed", "__getitem__", "knows", "until", "who", "__eq__", "__init__"):
            self.assertIn(name, vars(Chronicle))
        self.assertIsInstance(vars(Chronicle)["deeds"], property)

    def test_arguments_by_name(self):
        days = Chronicle(*DAYS)
        self.assertEqual([days.knows(thing=0), days.until(moment=0).deeds, list(days.who(word="now", thing=9)),
                          len(days.with_deed(deed=("leak", 1)))], [True, (), [], 8])
