"""Rings ([18])."""

import random
import unittest

from sealshelf.chests import Chest
from sealshelf.rings import Ring
from tests.making import WRONG, deep, some_case
from tests.naive import BOXES, MEMO, closure, pair


class Rings(unittest.TestCase):
    def test_example(self):
        self.assertEqual([(Ring(4, 1, 4) | Ring(2)).members, (Ring(1, 2) & Ring(2, 3)).members,
                          (Ring(1, 2) - Ring(2)).members, str(Ring())], [(1, 2, 4), (2,), (1,), "-"])
        self.assertEqual([Ring(1).opening(BOXES).members, Ring(1).reading(BOXES), Ring(1).within(Ring(1, 2)),
                          True in Ring(1), Ring(1) == (1,)], [(1, 2, 3, 4), (MEMO,), True, False, False])

    def test_any_order_and_repeated(self):
        self.assertEqual(Ring(3, 1, 2, 3, 1).members, (1, 2, 3))
        self.assertEqual([Ring().members, len(Ring()), len(Ring(5, 5)), len(Ring(0, 10 ** 59))], [(), 0, 1, 2])

    def test_walk(self):
        self.assertEqual(list(Ring(3, 1, 2).walk()), [1, 2, 3])
        self.assertEqual(list(Ring().walk()), [])
        walk = Ring(2, 1).walk()
        self.assertEqual([next(walk), next(walk), next(walk, None)], [1, 2, None])

    def test_operators_are_those_of_sets(self):
        rng = random.Random(1)
        for _ in range(200):
            some, more = [[rng.randrange(6) for _ in range(rng.randrange(5))] for _ in range(2)]
            self.assertEqual((Ring(*some) | Ring(*more)).members, tuple(sorted(set(some) | set(more))))
            self.assertEqual((Ring(*some) & Ring(*more)).members, tuple(sorted(set(some) & set(more))))
            self.assertEqual((Ring(*some) - Ring(*more)).members, tuple(sorted(set(some) - set(more))))
            self.assertIs(Ring(*some).within(Ring(*more)), set(some) <= set(more))
            self.assertIs(Ring(*some) == Ring(*more), set(some) == set(more))
            self.assertIs(Ring(*some) != Ring(*more), set(some) != set(more))

    def test_operators_make_new_rings(self):
        one = Ring(1, 2)
        for made in (one | one, one & one, one - Ring(), one | Ring()):
            self.assertIs(type(made), Ring)
            self.assertIsNot(made, one)
            self.assertEqual(made, one)
        self.assertEqual(one.members, (1, 2))

    def test_never_changes(self):
        ring = Ring(1, 2)
        with self.assertRaises(AttributeError):
            ring.members = (3,)
        one = ring
        one |= Ring(3)
        self.assertEqual([ring.members, one.members], [(1, 2), (1, 2, 3)])

    def test_in_with_any_value(self):
        ring = Ring(0, 1, 7)
        self.assertEqual([0 in ring, 1 in ring, 7 in ring, 2 in ring], [True, True, True, False])
        for value in WRONG + (deep(40), ring, MEMO, {}, 1.0, {1}):
            self.assertEqual(value in ring, type(value) is int and value in (0, 1, 7), repr(value))

    def test_equal_to_rings_alone(self):
        self.assertTrue(Ring(1, 2) == Ring(2, 1, 1))
        self.assertFalse(Ring(1, 2) != Ring(2, 1))
        for value in WRONG + (deep(40), {1}, frozenset({1}), [Ring(1)], (Ring(1),), Chest(())):
            self.assertFalse(Ring(1) == value)
            self.assertFalse(value == Ring(1))
            self.assertTrue(Ring(1) != value)
        self.assertFalse(Ring() == Chest(()))
        self.assertTrue((Ring(1), [Ring()]) == (Ring(1), [Ring()]))

    def test_within(self):
        self.assertEqual([Ring().within(Ring()), Ring().within(Ring(1)), Ring(1).within(Ring()),
                          Ring(1, 3).within(Ring(1, 2, 3))], [True, True, False, True])

    def test_opening_and_reading(self):
        self.assertEqual([Ring().opening(BOXES), Ring().reading(BOXES)], [Ring(), ()])
        for seed in range(100):
            keys, boxes, _ = some_case(seed)
            found, texts = pair(closure(keys, boxes))
            self.assertEqual(Ring(*keys).opening(boxes).members, found)
            self.assertEqual(Ring(*keys).reading(boxes=boxes), texts)

    def test_written(self):
        self.assertEqual([str(Ring(10, 9)), str(Ring(0))], ["9,10", "0"])
