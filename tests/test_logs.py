"""What is not logged, and suspects ([45])."""

import unittest

from sealshelf.errors import UnknownHolder
from sealshelf.logs import suspects, unlogged
from tests.making import WRONG, deep
from tests.naive import pair
from tests.naivetimes import DAYS, MEMO, had, holders, some_history

OPENED = DAYS[:4] + (("hand", "ann", 2), ("open", "ann", 1))


class Logs(unittest.TestCase):
    def test_example(self):
        self.assertEqual([unlogged(OPENED, "ann"), suspects(OPENED, MEMO), suspects(OPENED, 1)],
                         [((1,), ()), (("ann",), ("ann",)), (("ann",), ())])

    def test_nobody(self):
        self.assertEqual([suspects((), 0), suspects((("leak", 0),), 0), suspects(DAYS, 77)], [((), ())] * 3)

    def test_who_opened_nothing_is_suspected_of_all_that_they_remember(self):
        history = OPENED + (("hand", "bob", 1),)
        self.assertEqual([suspects(history, MEMO), suspects(history, 2)],
                         [(("ann", "bob"), ("ann",)), (("ann", "bob"), ("ann", "bob"))])
        self.assertEqual(unlogged(history, "bob"), ((), (MEMO,)))

    def test_histories(self):
        for seed in range(200):
            history = some_history(seed)
            ways = [{name: had(history, (name,), len(history), word) for name in holders(history)}
                    for word in ("remembered", "logged")]
            for name in holders(history):
                self.assertEqual(unlogged(history, name), pair(ways[0][name] - ways[1][name]))
            for thing in (0, 1, MEMO, ("memo", 1)):
                told = suspects(history, thing)
                self.assertEqual(told, tuple(tuple(name for name in way if thing in way[name]) for way in ways))
                self.assertLessEqual(set(told[1]), set(told[0]))

    def test_unknown_holder(self):
        for value in WRONG + (deep(40), ["ann"], ("ann",), "cy", "world"):
            with self.assertRaises(UnknownHolder) as caught:
                unlogged(DAYS, value)
            self.assertEqual(caught.exception.holder, value)
            self.assertIs(type(caught.exception.holder), type(value))
        with self.assertRaises(UnknownHolder):
            unlogged((), "ann")

    def test_arguments_by_name(self):
        self.assertEqual([unlogged(holder="bob", history=DAYS), suspects(thing=0, history=())], [((), ()), ((), ())])
