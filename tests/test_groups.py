"""What groups open, least groups and least locks ([4], [10], [24], [25], [26])."""

import unittest

from sealshelf.errors import UnknownHolder
from sealshelf.groups import alone, least_groups, least_locks, opened_by, opens_together
from tests.making import WRONG, deep, some_shelf
from tests.naive import MEMO, SHELF, closure, least, locking_groups, opening_groups, pair, parts_of

A = ("a", 0)
B = ("b", 0)
THINGS = (MEMO, ("memo", 1), 0, 3)


class Groups(unittest.TestCase):
    def test_example(self):
        self.assertEqual([opened_by(SHELF, ("bob", "cy")), alone(SHELF, A)], [((1, 2, 3, 4), (A, B)), ("ann",)])
        self.assertEqual([least_groups(SHELF, B), least_locks(SHELF, B), least_groups(SHELF, 9), least_locks(SHELF, 9)],
                         [(("ann", "cy"), ("bob", "cy")), (("ann", "bob"), ("cy",)), (), ((),)])

    def test_empty_group(self):
        self.assertEqual(opened_by(SHELF, ()), ((), ()))
        self.assertIs(opens_together(SHELF, (), 0), False)

    def test_together_what_none_opens_alone(self):
        self.assertEqual([opens_together(SHELF, group, B) for group in ((), ("bob",), ("cy",), ("bob", "cy"))],
                         [False, False, False, True])
        self.assertEqual(alone(SHELF, B), ())
        self.assertEqual(alone(SHELF, 3), ("ann",))

    def test_shelf_without_holders(self):
        shelf = ((), SHELF[1])
        self.assertEqual([alone(shelf, A), least_groups(shelf, A), least_locks(shelf, A), opened_by(shelf, ())],
                         [(), (), ((),), ((), ())])

    def test_all_groups_of_shelves(self):
        for seed in range(60):
            shelf = some_shelf(seed)
            hands = dict(shelf[0])
            for group in parts_of(tuple(hands)):
                there = closure([key for holder in group for key in hands[holder]], shelf[1])
                self.assertEqual(opened_by(shelf, group), pair(there))
                for thing in THINGS:
                    self.assertIs(opens_together(shelf, group, thing), thing in there)

    def test_least_ones_of_shelves(self):
        for seed in range(150):
            shelf = some_shelf(seed)
            for thing in THINGS:
                groups = opening_groups(shelf, thing)
                self.assertEqual(alone(shelf, thing), tuple(group[0] for group in groups if len(group) == 1))
                self.assertEqual(least_groups(shelf, thing), least(groups))
                self.assertEqual(least_locks(shelf, thing), least(locking_groups(shelf, thing)))

    def test_groups_and_locks_determine_each_other(self):
        for seed in range(80):
            shelf = some_shelf(seed)
            holders = tuple(hand[0] for hand in shelf[0])
            for thing in THINGS:
                groups, locks = least_groups(shelf, thing), least_locks(shelf, thing)
                self.assertEqual(locks, least(meeting(holders, groups)))
                self.assertEqual(groups, least(meeting(holders, locks)))

    def test_unknown_holder(self):
        for value in WRONG + (deep(40), [["ann"]], "world", "dee", "Ann", 10 ** 59):
            for group in ((value,), ("ann", value), (value, "ann"), ("ann", value, None), (value, value)):
                self.raises(value, group)

    def test_holder_twice(self):
        self.raises("ann", ("ann", "ann"))
        self.raises("bob", ("ann", "bob", "bob", "zoe"))
        self.raises("ann", ("ann", "bob", "ann"))
        self.raises("zoe", ("ann", "zoe", "ann", "zoe"))

    def test_world_is_no_holder_of_a_shelf(self):
        self.raises("world", ("ann", "world"))

    def raises(self, holder, group):
        for call, arguments in ((opened_by, (SHELF, group)), (opens_together, (SHELF, group, A))):
            with self.assertRaises(UnknownHolder) as caught:
                call(*arguments)
            self.assertEqual(caught.exception.holder, holder)
            self.assertIs(type(caught.exception.holder), type(holder))

    def test_forty_boxes_and_somewhat_more_holders(self):
        names = ("ann", "bob", "cy", "dee", "eve", "fay", "gus")
        hands = tuple((name, (k,)) for k, name in enumerate(names))
        boxes = tuple((100 + k, (k % 7, 100 + k + 1)) for k in range(39)) + ((139, (0, 1)),)
        self.assertEqual(least_groups((hands, boxes), 100), (names,))
        self.assertEqual(least_locks((hands, boxes), 100), tuple((name,) for name in names))

    def test_arguments_by_name(self):
        self.assertEqual(opened_by(group=(), shelf=SHELF), ((), ()))
        self.assertIs(opens_together(thing=0, group=("ann",), shelf=SHELF), True)
        self.assertEqual([alone(thing=9, shelf=SHELF), least_groups(thing=9, shelf=SHELF),
                          least_locks(thing=9, shelf=SHELF)], [(), (), ((),)])


def meeting(holders, groups):
    """The groups that have a holder in common with each of these."""
    return [one for one in parts_of(holders) if all(set(one) & set(group) for group in groups)]
