"""Demands met, needless boxes, least keeps and fewest keeps ([30], [31], [34])."""

import random
import unittest

from sealshelf.errors import Locked, UnknownHolder
from sealshelf.keeping import fewest_kept, least_keeps, meets, needless
from sealshelf.keeppapers import keep_paper
from tests.making import WRONG, deep, some_demands, some_shelf
from tests.naive import MEMO, SHELF, least, parts_of
from tests.naivekeeps import THREE, TWO, keeps, met

RAISING = (needless, least_keeps, fewest_kept, keep_paper)


def some_cases(many, boxes=6):
    """Shelves and demands that all boxes together meet."""
    for seed in range(many):
        shelf = some_shelf(seed, many=boxes)
        demands = some_demands(seed, shelf)
        if met(shelf, demands, range(len(shelf[1]))):
            yield shelf, demands


class Keeping(unittest.TestCase):
    def test_example(self):
        self.assertEqual([needless(SHELF, TWO), fewest_kept(SHELF, TWO), needless(SHELF, THREE),
                          least_keeps(SHELF, THREE)], [(1, 2), (0, 3, 4), (0, 1, 2), ((0, 3, 4), (1, 3, 4))])
        with self.assertRaises(Locked) as caught:
            fewest_kept(SHELF, TWO + ((("bob",), 3),))
        self.assertEqual(caught.exception.thing, 3)

    def test_no_demands(self):
        for shelf in (SHELF, ((), ())):
            every = tuple(range(len(shelf[1])))
            self.assertEqual([meets(shelf, (), ()), meets(shelf, (), every), needless(shelf, ()),
                              least_keeps(shelf, ()), fewest_kept(shelf, ())], [True, True, every, ((),), ()])

    def test_equal_demands(self):
        self.assertEqual([least_keeps(SHELF, THREE * 3), fewest_kept(SHELF, TWO * 6)],
                         [least_keeps(SHELF, THREE), (0, 3, 4)])

    def test_demand_met_by_no_boxes(self):
        demands = ((("ann", "bob"), 1),)
        self.assertEqual([meets(SHELF, demands, ()), least_keeps(SHELF, demands), needless(SHELF, demands)],
                         [True, ((),), (0, 1, 2, 3, 4)])

    def test_group_of_nobody(self):
        for call in RAISING:
            with self.assertRaises(Locked) as caught:
                call(SHELF, TWO + (((), 0), ((), 1)))
            self.assertEqual(caught.exception.thing, 0)
        self.assertIs(meets(SHELF, (((), 0),), (0, 1, 2, 3, 4)), False)

    def test_meets(self):
        self.assertEqual([meets(SHELF, TWO, kept) for kept in ((0, 3, 4), (0, 1, 2, 3, 4), (0, 1, 2, 3), (1, 3, 4), ())],
                         [True, True, False, False, False])
        for shelf, demands in some_cases(60):
            for kept in parts_of(range(len(shelf[1]))):
                self.assertIs(meets(shelf, demands, kept), met(shelf, demands, kept))

    def test_two_needless_boxes_may_be_needed_together(self):
        self.assertEqual(meets(SHELF, THREE, (2, 3, 4)), False)
        self.assertLessEqual({0, 1}, set(needless(SHELF, THREE)))

    def test_trial_of_all_sets(self):
        for shelf, demands in some_cases(400, boxes=8):
            all_keeps = keeps(shelf, demands)
            every = tuple(range(len(shelf[1])))
            self.assertEqual(least_keeps(shelf, demands), least(all_keeps))
            kept = fewest_kept(shelf, demands)
            self.assertIn(kept, all_keeps)
            self.assertEqual(len(kept), len(all_keeps[0]))
            self.assertIn(kept, least_keeps(shelf, demands))
            self.assertEqual(needless(shelf, demands),
                             tuple(b for b in every if every[:b] + every[b + 1:] in all_keeps))

    def test_consequences(self):
        for shelf, demands in some_cases(200):
            leasts = least_keeps(shelf, demands)
            loose = needless(shelf, demands)
            self.assertEqual(tuple(b for b in range(len(shelf[1])) if not all(b in keep for keep in leasts)), loose)
            if len(leasts) == 1:
                self.assertEqual(leasts[0], tuple(b for b in range(len(shelf[1])) if b not in loose))
            self.assertLessEqual(len(fewest_kept(shelf, demands[:1])), len(fewest_kept(shelf, demands)))
            for keep in leasts:
                for b in keep:
                    for c in keep:
                        same = shelf[1][b][0] == shelf[1][c][0] and set(shelf[1][b][1]) <= set(shelf[1][c][1])
                        self.assertFalse(b != c and same)

    def test_six_demands_and_twelve_boxes(self):
        rng = random.Random(5)
        names = ("ann", "bob", "cy", "dee", "eve")
        for _ in range(40):
            hands = tuple((name, tuple(sorted(rng.sample(range(6), rng.choice((1, 2)))))) for name in names)
            boxes = tuple((rng.choice((MEMO, 1, 2, 3)), (key,)) for key in rng.choices((0, 4, 5, 6, 7), k=12))
            shelf = (hands, boxes)
            demands = tuple((tuple(sorted(rng.sample(names, 2))), rng.choice((MEMO, 1, 2, 3))) for _ in range(6))
            demands = tuple(one for one in demands if met(shelf, (one,), range(12)))
            all_keeps = keeps(shelf, demands)
            self.assertEqual(least_keeps(shelf, demands), least(all_keeps))
            self.assertEqual(len(fewest_kept(shelf, demands)), len(all_keeps[0]))

    def test_forty_boxes(self):
        chain = tuple((k + 1, (k,)) for k in range(22)) + tuple((MEMO, (22, k)) for k in range(9))
        shelf = ((("ann", (0,)),), chain + chain[:9])
        demands = ((("ann",), MEMO), (("ann",), 22))
        self.assertEqual(needless(shelf, demands), tuple(range(9)) + tuple(range(22, 40)))
        self.assertEqual(len(least_keeps(shelf, demands)), 2 ** 9 * 9)

    def test_unknown_holder_before_locked(self):
        for value in WRONG + (deep(40), [["ann"]], "dee"):
            for group in ((value,), ("ann", value), ("ann", value, "zoe"), (value, value)):
                for demands in (((group, 0),), ((("bob",), 3), (group, 0)), ((group, 0), (("zoe",), 0))):
                    self.unknown(value, demands)

    def test_first_unknown_holder_of_the_demands(self):
        self.unknown("ann", ((("ann", "ann"), 0), (("zoe",), 0)))
        self.unknown("zoe", ((("ann",), 0), (("ann", "zoe"), 0), (("ann", "ann"), 0)))
        # The same holder may stand in two groups.
        self.assertIs(meets(SHELF, ((("ann",), 0), (("ann", "bob"), 1)), ()), True)

    def unknown(self, holder, demands):
        for call in RAISING + (lambda shelf, demands: meets(shelf, demands, ()),):
            with self.assertRaises(UnknownHolder) as caught:
                call(SHELF, demands)
            self.assertEqual(caught.exception.holder, holder)
            self.assertIs(type(caught.exception.holder), type(holder))

    def test_locked_with_the_thing_of_the_first_demand_that_is_not_met(self):
        demands = TWO + ((("ann",), 3), (("cy",), MEMO), (("bob",), 3))
        for call in RAISING:
            with self.assertRaises(Locked) as caught:
                call(SHELF, demands)
            self.assertEqual(caught.exception.thing, MEMO)
        self.assertIs(meets(SHELF, demands, (0, 1, 2, 3, 4)), False)

    def test_arguments_by_name(self):
        self.assertIs(meets(kept=(), demands=(), shelf=SHELF), True)
        self.assertEqual([needless(demands=TWO, shelf=SHELF), least_keeps(demands=TWO, shelf=SHELF),
                          fewest_kept(demands=TWO, shelf=SHELF)], [(1, 2), ((0, 3, 4),), (0, 3, 4)])
