"""Groups papers ([28])."""

import unittest

from sealshelf.grouppapers import groups_paper
from sealshelf.groups import least_groups, least_locks
from tests.making import some_shelf
from tests.naive import MEMO, SHELF, closed_error, least, locking_groups, opening_groups, way_error


class GroupsPapers(unittest.TestCase):
    def check(self, shelf, thing):
        """Whether groups_paper returns one, by the words of the document."""
        paper = groups_paper(shelf, thing)
        self.assertEqual([type(paper), type(paper[0]), type(paper[1]), len(paper)], [tuple, tuple, tuple, 2])
        hands, boxes = dict(shelf[0]), shelf[1]
        self.assertEqual(tuple(group for group, _ in paper[0]), least(opening_groups(shelf, thing)))
        self.assertEqual(tuple(lock for lock, _ in paper[1]), least(locking_groups(shelf, thing)))
        for group, way in paper[0]:
            keys = tuple(sorted({key for holder in group for key in hands[holder]}))
            self.assertIsInstance(way_error(keys, boxes, thing, way), int)
        for lock, closed in paper[1]:
            keys = tuple(sorted({key for holder in hands if holder not in lock for key in hands[holder]}))
            self.assertIsInstance(closed_error(keys, boxes, thing, closed), int)

    def test_example(self):
        self.check(SHELF, ("a", 0))
        self.check(SHELF, ("b", 0))

    def test_nobody_opens_it(self):
        self.check(SHELF, 9)
        groups, locks = groups_paper(SHELF, MEMO)
        self.assertEqual([groups, locks[0][0]], [(), ()])

    def test_no_holders(self):
        self.check(((), SHELF[1]), 3)

    def test_thing_in_a_hand(self):
        self.check(SHELF, 0)
        self.assertEqual(groups_paper(SHELF, 0)[0], ((("ann",), ()),))

    def test_shelves(self):
        for seed in range(150):
            shelf = some_shelf(seed)
            for thing in (MEMO, ("memo", 1), 0, 2):
                self.check(shelf, thing)
                groups, locks = groups_paper(shelf=shelf, thing=thing)
                self.assertEqual(tuple(group for group, _ in groups), least_groups(shelf, thing))
                self.assertEqual(tuple(lock for lock, _ in locks), least_locks(shelf, thing))
