"""Last takes and sets of puts that keep a thing off ([43], [44])."""

import unittest

from sealshelf.errors import InvalidStep, UnknownHolder
from sealshelf.takes import keeping_off, last_take, least_offs
from sealshelf.timedways import timed_way
from tests.making import WRONG, deep
from tests.naive import least, parts_of
from tests.naivetimes import DAYS, MEMO, groups_of, had, puts, some_history, there, without

GROUP = ("ann", "world")
BOX = (1, (0,))


class Takes(unittest.TestCase):
    def test_example(self):
        self.assertEqual([last_take(DAYS, GROUP, MEMO, 0), last_take(DAYS, GROUP, MEMO, 1), last_take(DAYS, ("bob",), MEMO, 1)],
                         [2, 7, None])
        self.assertEqual([keeping_off(DAYS, GROUP, MEMO), least_offs(DAYS, ("bob",), MEMO), least_offs(DAYS, ("ann",), 0)],
                         [(0, 1), ((),), ()])

    def test_thing_that_is_never_had(self):
        for group in ((), ("ann",), GROUP):
            self.assertEqual([last_take(DAYS, group, 9, 0), keeping_off(DAYS, group, 9), least_offs(DAYS, group, 9)],
                             [None, (), ((),)])
        self.assertEqual([keeping_off((), (), 0), least_offs((), (), 0), least_offs((), ("world",), MEMO, most=0)],
                         [(), ((),), ((),)])

    def test_thing_in_the_hand(self):
        self.assertEqual([last_take(DAYS, ("ann",), 0, 0), keeping_off(DAYS, ("ann",), 0), least_offs(DAYS, ("ann",), 0, most=3)],
                         [None, (), ()])
        # First opened, and then handed, too.
        history = (("hand", "ann", 0), ("put", BOX), ("hand", "ann", 1))
        self.assertEqual([last_take(history, ("ann",), 1, 0), keeping_off(history, ("ann",), 1),
                          least_offs(history, ("ann",), 1)], [None, (), ()])
        self.assertEqual([last_take(history[:2], ("ann",), 1, 0), keeping_off(history[:2], ("ann",), 1),
                          least_offs(history[:2], ("ann",), 1)], [2, (0,), ((0,),)])

    def test_puts_of_equal_boxes(self):
        history = (("hand", "ann", 0), ("put", BOX), ("put", BOX))
        self.assertEqual([last_take(history, ("ann",), 1, b) for b in (0, 1)], [None, None])
        self.assertEqual([keeping_off(history, ("ann",), 1), least_offs(history, ("ann",), 1),
                          least_offs(history, ("ann",), 1, most=1)], [(), ((0, 1),), ()])

    def test_put_taken_and_put_again(self):
        history = (("put", BOX), ("take", 0), ("hand", "ann", 0), ("put", BOX), ("put", (MEMO, (1,))))
        self.assertEqual([last_take(history, ("ann",), MEMO, b) for b in (0, 1, 2)], [None, 4, 5])
        self.assertEqual(keeping_off(history, ("ann",), MEMO), (1, 2))
        self.assertEqual(least_offs(history, ("ann",), MEMO), ((1,), (2,)))

    def test_last_take_is_the_last_moment(self):
        # The key comes at moment 4, so taking the box off at 4 is early enough, and at 5 too late.
        history = (("put", BOX), ("leak", 7), ("leak", 7), ("hand", "ann", 0), ("leak", 7), ("take", 0))
        self.assertEqual(last_take(history, ("ann",), 1, 0), 4)
        # Taken by a deed at the very moment at which the key would come.
        self.assertIsNone(last_take(history[:3] + (("take", 0), ("hand", "ann", 0)), ("ann",), 1, 0))

    def test_opens_do_not_matter(self):
        history = (("hand", "ann", 0), ("put", BOX), ("put", (MEMO, (1,))), ("open", "ann", 0), ("open", "ann", 1))
        self.assertEqual([last_take(history, ("ann",), MEMO, b) for b in (0, 1)], [2, 3])

    def test_trial_of_all_moments(self):
        for seed in range(120):
            history = some_history(seed)
            for group in groups_of(history):
                for thing in (1, MEMO):
                    self.check_takes(history, group, thing)

    def check_takes(self, history, group, thing):
        many = len(puts(history))
        kept_off = []
        for b in range(many):
            moments = [m for m in range(len(history) + 1) if b in there(history, m)
                       and thing not in without(history, group, {b: m})]
            if thing not in had(history, group, len(history), "remembered"):
                moments = []
            self.assertEqual(last_take(history, group, thing, b), moments[-1] if moments else None)
            if moments:
                kept_off.append(b)
        self.assertEqual(keeping_off(history, group, thing), tuple(kept_off))

    def test_trial_of_all_sets_of_puts(self):
        for seed in range(120):
            history = some_history(seed, most=16, keys=4)
            for group in groups_of(history):
                for thing in (1, 3, MEMO):
                    off = [part for part in parts_of(range(len(puts(history))))
                           if thing not in without(history, group, {b: 0 for b in part})]
                    for most in range(4):
                        self.assertEqual(least_offs(history, group, thing, most=most),
                                         tuple(one for one in least(off) if len(one) <= most))
                    self.assertEqual(least_offs(history, group, thing), least_offs(history, group, thing, most=2))
                    if off and () not in off:
                        self.assertEqual(least_offs(history, group, thing, most=1),
                                         tuple((b,) for b in keeping_off(history, group, thing)))

    def test_each_way_has_a_put_of_each_least_set(self):
        for seed in range(100):
            history = some_history(seed)
            for group in groups_of(history):
                way = timed_way(history, group, len(history), MEMO, "remembered")
                for off in least_offs(history, group, MEMO, most=3):
                    self.assertTrue(way is None or any(b in off for _, b in way))

    def test_twelve_puts(self):
        history = (("hand", "ann", 0),)
        for k in range(4):
            history += (("put", (k + 1, (k,))),) * 3
        history += (("leak", 7),) * 40
        self.assertEqual(least_offs(history, ("ann",), 4, most=3), tuple((3 * k, 3 * k + 1, 3 * k + 2) for k in range(4)))
        self.assertEqual(least_offs(history, ("ann",), 4), ())
        chain = (("hand", "ann", 0),) + tuple(("put", (k + 1, (k,))) for k in range(12)) + (("leak", 7),) * 40
        self.assertEqual(least_offs(chain, ("ann",), 12, most=3), tuple((k,) for k in range(12)))
        self.assertEqual([last_take(chain, ("ann",), 12, b) for b in (0, 5, 11)], [2, 7, 13])
        self.assertEqual(keeping_off(chain, ("ann",), 12), tuple(range(12)))

    def test_number_of_no_put(self):
        for b in [value for value in WRONG if type(value) is not int or value not in (0, 1)] + [2, deep(40), [0]]:
            for group in ((), ("ann",), GROUP):
                with self.assertRaises(InvalidStep) as caught:
                    last_take(DAYS, group, MEMO, b)
                self.assertEqual([caught.exception.step, caught.exception.word], [("take", b), "lies"])
                self.assertIs(type(caught.exception.step[1]), type(b))

    def test_unknown_holder_comes_first(self):
        for value in [value for value in WRONG + (deep(40), ["ann"], "cy") if value != "world"] + ["ann"]:
            group = ("ann", value, "zoe")
            for call in (lambda: last_take(DAYS, group, MEMO, 7), lambda: last_take(DAYS, group, MEMO, 0),
                         lambda: keeping_off(DAYS, group, MEMO), lambda: least_offs(DAYS, group, MEMO)):
                with self.assertRaises(UnknownHolder) as caught:
                    call()
                self.assertEqual(caught.exception.holder, value)

    def test_arguments_by_name(self):
        self.assertIsNone(last_take(b=0, thing=9, group=(), history=DAYS))
        self.assertEqual([keeping_off(thing=0, group=(), history=()), least_offs(most=3, thing=0, group=(), history=())],
                         [(), ((),)])
        with self.assertRaises(TypeError):
            least_offs(DAYS, (), 0, 2)
