"""The checker of a shelf ([23])."""

import unittest

from sealshelf.errors import InvalidPaper
from sealshelf.shelfchecker import lets_shelf
from tests.making import WRONG, deep, some_shelf, told, variants
from tests.naive import HANDS, SHELF, shelf_error


class ShelfChecker(unittest.TestCase):
    def raises(self, word, at, value):
        with self.assertRaises(InvalidPaper) as caught:
            lets_shelf(value)
        self.assertEqual((caught.exception.word, caught.exception.at), (word, at), repr(value))

    def test_example(self):
        self.assertEqual(lets_shelf(SHELF), (3, 5))
        self.raises("own", 1, (HANDS, ((3, (0,)), (4, (4, 5)))))

    def test_least_shelf(self):
        self.assertEqual(lets_shelf(((), ())), (0, 0))
        self.assertEqual(lets_shelf(thing=((("ann", ()),), ())), (1, 0))

    def test_shape(self):
        for value in (None, (), ((),), ((), (), ()), [(), ()], ([], ()), ((), []), ((("ann",),), ()), (("ann", ()), ()),
                      ((["ann", ()],), ()), ((("ann", [1]),), ()), ((("ann", (True,)),), ()), ((("Ann", ()),), ()),
                      ((("ann", (-1,)),), ()), ((), ((True, (1,)),)), ((), ((1, [2]),)), ((), ((1, (2,), 3),)),
                      ((), ([1, (2,)],)), ((), ((("memo", True), (1,)),)), ((), ((1, ("a",)),)), ((), (1, (2,)))):
            self.raises("shape", -1, value)

    def test_shape_comes_first(self):
        self.raises("shape", -1, ((("world", ()),), ((1, None),)))
        self.raises("shape", -1, ((("bob", ()), ("ann", (2, 1)), (1, ())), ()))

    def test_holders_and_keys(self):
        self.raises("holder", 0, ((("world", ()),), ()))
        self.raises("holder", 1, ((("ann", ()), ("ann", ())), ()))
        self.raises("holder", 1, ((("bob", ()), ("ann", (2, 1))), ()))
        self.raises("keys", 0, ((("bob", (2, 1)), ("ann", ())), ()))
        self.raises("keys", 1, ((("ann", ()), ("bob", (1, 1))), ((1, ()),)))
        self.raises("holder", 1, ((("ann", ()), ("world", ()), ("bob", (2, 1))), ()))

    def test_boxes(self):
        self.raises("empty", 1, ((), ((1, (2,)), (1, ()))))
        self.raises("order", 0, ((), ((1, (2, 1)), (1, ()))))
        self.raises("order", 0, ((), ((1, (1, 1)),)))
        self.raises("own", 0, ((), ((1, (1,)), (1, ()))))
        self.raises("empty", 0, ((), ((1, ()), (1, (1,)))))

    def test_every_value(self):
        for value in WRONG + (deep(40), tuple(range(5000))):
            self.agrees(value)
            self.agrees((value, ()))
            self.agrees(((), value))

    def test_shelves_changed_at_one_place(self):
        for seed in range(25):
            for value in variants(some_shelf(seed, many=4, most=4)):
                self.agrees(value)

    def agrees(self, value):
        wanted = shelf_error(value)
        if isinstance(wanted[0], str):
            wanted = ("InvalidPaper", *wanted)
        self.assertEqual(told(lets_shelf, value), wanted, repr(value))
