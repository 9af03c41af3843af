"""Kinds of values ([2], [3], [4], [11])."""

import unittest

from sealshelf.kinds import is_box, is_boxes, is_key, is_keys, is_name, is_shelf, is_text, is_thing
from tests.making import WRONG, deep, some_shelf, variants
from tests.naive import BOXES, MEMO, SHELF, shelf_error

ALL = (is_name, is_key, is_text, is_thing, is_keys, is_box, is_boxes, is_shelf)


class Kinds(unittest.TestCase):
    def yes(self, kind, *values):
        for value in values:
            self.assertIs(kind(value), True, repr(value))

    def no(self, kind, *values):
        for value in values:
            self.assertIs(kind(value), False, repr(value))

    def test_example(self):
        self.assertEqual([is_thing(7), is_thing(MEMO), is_thing(True), is_keys((2, 1)), is_box((2, (1, 2))),
                          is_boxes(())], [True, True, False, False, False, True])
        self.assertEqual([is_shelf(((("ann", (1,)), ("bob", ())), BOXES)),
                          is_shelf(((("bob", ()), ("ann", (1,))), BOXES))], [True, False])

    def test_name(self):
        self.yes(is_name, "a", "abcdefgh", "world", "come")
        self.no(is_name, "", "abcdefghi", "Ann", "a b", "a1", "ann\n", " ann", "\u00e4", ("a",), ["a"], 1, None, True)

    def test_key(self):
        self.yes(is_key, 0, 1, 10 ** 59, 10 ** 200)
        self.no(is_key, -1, True, False, None, "1", (1,), [1])

    def test_text(self):
        self.yes(is_text, MEMO, ("world", 10 ** 59))
        self.no(is_text, ["memo", 0], ("memo",), ("memo", 0, 0), ("memo", True), ("memo", -1), ("Memo", 0), (0, "memo"),
                "memo.0", 0, (("memo",), 0), ([], 0), ("memo", []))

    def test_thing(self):
        self.yes(is_thing, 0, MEMO)
        self.no(is_thing, False, None, -1, "memo", ("memo", False), ())

    def test_keys(self):
        self.yes(is_keys, (), (0,), (0, 1), (3, 10 ** 59))
        self.no(is_keys, [], [1], (1, 1), (2, 1), (True,), (0, True), (-1,), ("a",), ((1,),), (1, None), 1, None)

    def test_box(self):
        self.yes(is_box, (2, (1,)), (MEMO, (0, 5)), (1, (0, 2)))
        self.no(is_box, (2, ()), (2, (2,)), (1, (0, 1)), (2, (1, 0)), (2, [1]), [2, (1,)], (True, (2,)), (2, (True,)),
                (2,), (2, (1,), 0), (2, 1), (("memo", -1), (1,)), (None, (1,)))

    def test_boxes(self):
        self.yes(is_boxes, (), BOXES, (BOXES[0], BOXES[0]))
        self.no(is_boxes, [], list(BOXES), BOXES[0], (BOXES,), (BOXES[0], None), ((1, (1,)),))

    def test_shelf(self):
        self.yes(is_shelf, SHELF, ((), ()), ((("ann", ()),), BOXES))
        self.no(is_shelf, ((("world", ()),), ()), ((("ann", ()), ("ann", (1,))), ()), ((("ann", (2, 1)),), ()), ((),),
                ((), (), ()), [(), ()], ([], ()), ((), []), ((["ann", ()],), ()), ((("ann", [1]),), ()), ((), BOXES[0]))

    def test_any_value(self):
        for value in WRONG + (deep(40), tuple(range(5000)), ((("ann", ()),) * 2, ())):
            for kind in ALL:
                self.assertIsInstance(kind(value), bool)

    def test_every_change_of_a_shelf(self):
        small = (SHELF[0][:2], (SHELF[1][0], SHELF[1][2]))
        for value in variants(small):
            self.assertIs(is_shelf(value), isinstance(shelf_error(value)[0], int), repr(value))

    def test_made_values(self):
        for seed in range(50):
            shelf = some_shelf(seed)
            self.assertTrue(is_shelf(shelf))
            self.assertTrue(is_boxes(shelf[1]))

    def test_limits_do_not_matter(self):
        boxes = tuple((k, (k + 1,)) for k in range(100))
        self.yes(is_boxes, boxes)
        self.yes(is_shelf, (tuple((name, (10 ** 99,)) for name in "abcdefghij"), boxes))
