"""Least leaks ([27])."""

import random
import unittest

from sealshelf.leaks import least_leaks
from tests.making import some_shelf
from tests.naive import MEMO, SHELF, leaks, least


class Leaks(unittest.TestCase):
    def test_example(self):
        self.assertEqual([least_leaks(SHELF, ("a", 0)), least_leaks(SHELF, ("a", 0), known=(1,)),
                          least_leaks(SHELF, 4, known=(0, 8))], [((0,), (1, 2), (3,)), ((0,), (2,), (3,)), ((),)])

    def test_thing_that_is_a_key(self):
        self.assertEqual(least_leaks(SHELF, 2), ((2,),))
        self.assertEqual(least_leaks(SHELF, 9), ())
        self.assertEqual(least_leaks(SHELF, 9, known=(9,)), ((),))
        self.assertEqual(least_leaks(((("ann", (5,)),), ()), 5), ((5,),))
        self.assertEqual(least_leaks(((), ((1, (2,)),)), 1), ((1,), (2,)))

    def test_nothing_on_the_shelf(self):
        self.assertEqual([least_leaks(((), ()), MEMO), least_leaks(((), ()), 0), least_leaks(((), ()), 0, known=(0,))],
                         [(), (), ((),)])

    def test_known_keys_in_any_order_repeated_and_foreign(self):
        for known in ((1, 0), (0, 1, 0), (77, 1, 0, 5, 77)):
            self.assertEqual(least_leaks(SHELF, ("b", 0), known=known), ((2,),))
            self.assertEqual(least_leaks(SHELF, ("a", 0), known=known), ((),))

    def test_hands_open_nothing_by_themselves(self):
        self.assertEqual(least_leaks(((("ann", (1,)),), ((MEMO, (1,)),)), MEMO), ((1,),))

    def test_trial_of_all_sets(self):
        rng = random.Random(2)
        for seed in range(150):
            shelf = some_shelf(seed, many=7, keys=6)
            known = tuple(rng.randrange(9) for _ in range(rng.choice((0, 0, 1, 2, 3))))
            for thing in (MEMO, ("memo", 1), 0, 4):
                self.assertEqual(least_leaks(shelf, thing, known=known), least(leaks(shelf, thing, known)))
        self.assertEqual(least_leaks(SHELF, MEMO), ())

    def test_twelve_keys_and_forty_boxes(self):
        sixes = tuple((20, tuple(sorted(rng.sample(range(12), 6)))) for rng in map(random.Random, range(40)))
        shelf = ((), tuple((MEMO, needed) for _, needed in sixes))
        self.assertEqual(least_leaks(shelf, MEMO), tuple(sorted(set(needed for _, needed in sixes))))
        chain = tuple((k + 1, (k,)) for k in reversed(range(23))) + ((MEMO, tuple(range(24))),)
        self.assertEqual(least_leaks(((), chain), MEMO, known=tuple(range(1, 13))), ((0,),))

    def test_arguments(self):
        self.assertEqual(least_leaks(known=(), thing=9, shelf=SHELF), ())
        with self.assertRaises(TypeError):
            least_leaks(SHELF, 9, (9,))
