"""Chests ([19])."""

import unittest

from sealshelf.chests import Chest, Doubled, DoubledShift, Shifted, ShiftedDouble, Without
from sealshelf.kinds import is_boxes
from sealshelf.rings import Ring
from tests.making import WRONG, deep, some_case
from tests.naive import BOXES, MEMO, closure, pair


def shifted(boxes, by):
    return tuple((thing if isinstance(thing, tuple) else thing + by, tuple(key + by for key in keys))
                 for thing, keys in boxes)


def doubled(boxes, key, extra):
    rows = []
    for thing, keys in boxes:
        rows.append((thing, keys))
        if key in keys and extra not in keys + (thing,):
            rows.append((thing, tuple(sorted(set(keys) - {key} | {extra}))))
    return tuple(rows)


class Chests(unittest.TestCase):
    def test_example(self):
        self.assertEqual([Without(BOXES, key=1).content(), Shifted(BOXES[2:4], by=2).content()],
                         [((3, (2,)), (MEMO, (3,)), (MEMO, (2, 4))), ((MEMO, (5,)), (MEMO, (4, 6)))])
        self.assertEqual([Doubled(BOXES[:2], key=1, extra=7).content(),
                          ShiftedDouble(BOXES[:1], by=3, key=1, extra=7).content()],
                         [((2, (1,)), (2, (7,)), (3, (2,))), ((5, (4,)), (5, (10,)))])
        self.assertEqual([DoubledShift(BOXES[:1], by=3, key=4, extra=7).content(), Chest(BOXES) == Shifted(BOXES, by=0),
                          Chest(()).opening((2,))], [((5, (4,)), (5, (7,))), True, ((2,), ())])

    def test_without(self):
        boxes = ((1, (2,)), (3, (1, 4)), (MEMO, (5,)), (6, (5,)))
        self.assertEqual(Without(boxes, key=1).content(), ((MEMO, (5,)), (6, (5,))))
        self.assertEqual(Without(boxes, key=9).content(), boxes)
        self.assertEqual(Without((), key=0).content(), ())

    def test_shifted_shifts_no_text_number(self):
        self.assertEqual(Shifted(((MEMO, (0, 9)), (3, (1,))), by=10).content(), ((MEMO, (10, 19)), (13, (11,))))

    def test_doubled_edges(self):
        self.assertEqual(Doubled(((7, (1,)),), key=1, extra=7).content(), ((7, (1,)),))
        self.assertEqual(Doubled(((5, (1, 7)),), key=1, extra=7).content(), ((5, (1, 7)),))
        self.assertEqual(Doubled(((5, (2,)),), key=1, extra=7).content(), ((5, (2,)),))
        self.assertEqual(Doubled(((5, (1, 9)), (5, (1, 9))), key=9, extra=0).content(),
                         ((5, (1, 9)), (5, (0, 1)), (5, (1, 9)), (5, (0, 1))))

    def test_orders_of_the_combined_ones(self):
        boxes = ((2, (1,)), (7, (1, 3)))
        self.assertEqual(ShiftedDouble(boxes, by=2, key=3, extra=5).content(), shifted(doubled(boxes, 3, 5), 2))
        self.assertEqual(DoubledShift(boxes, by=2, key=3, extra=5).content(), doubled(shifted(boxes, 2), 3, 5))

    def test_cases(self):
        for seed in range(80):
            keys, boxes, _ = some_case(seed)
            made = {
                Chest: (Chest(boxes), boxes),
                Without: (Without(boxes, key=1), tuple(b for b in boxes if 1 not in b[1] + (b[0],))),
                Shifted: (Shifted(boxes, by=3), shifted(boxes, 3)),
                Doubled: (Doubled(boxes, key=1, extra=0), doubled(boxes, 1, 0)),
                ShiftedDouble: (ShiftedDouble(boxes, by=2, key=0, extra=9), shifted(doubled(boxes, 0, 9), 2)),
                DoubledShift: (DoubledShift(boxes, by=1, key=1, extra=2), doubled(shifted(boxes, 1), 1, 2)),
            }
            for kind, (chest, wanted) in made.items():
                self.assertEqual(chest.content(), wanted)
                self.assertTrue(is_boxes(chest.content()))
                self.assertEqual(chest.opening(keys), pair(closure(keys, wanted)))
                self.assertEqual(chest, Chest(wanted))

    def test_along_the_resolution_order_of_other_classes(self):
        class Lean(Without, ShiftedDouble):
            def __init__(self, boxes):
                ShiftedDouble.__init__(self, boxes, by=1, key=1, extra=4)
                Without.__init__(self, boxes, key=5)

        class Fat(ShiftedDouble, Without):
            def __init__(self, boxes):
                ShiftedDouble.__init__(self, boxes, by=1, key=1, extra=4)
                Without.__init__(self, boxes, key=5)

        boxes = ((2, (1,)), (5, (2,)))
        self.assertEqual(Lean(boxes).content(), ((3, (2,)), (6, (3,))))
        self.assertEqual(Fat(boxes).content(), ((3, (2,)), (3, (5,))))
        self.assertEqual(Fat(boxes).opening((5,)), ((3, 5), ()))

    def test_methods_stand_in_each_class(self):
        for kind in (Chest, Without, Shifted, Doubled, ShiftedDouble, DoubledShift):
            self.assertIn("content", vars(kind))
            self.assertIn("opening", vars(kind))

    def test_bases(self):
        self.assertEqual([Without.__bases__, Shifted.__bases__, Doubled.__bases__], [(Chest,)] * 3)
        self.assertEqual([ShiftedDouble.__bases__, DoubledShift.__bases__], [(Shifted, Doubled), (Doubled, Shifted)])

    def test_equality(self):
        self.assertTrue(Chest(BOXES) == Without(BOXES, key=99))
        self.assertTrue(Without(BOXES, key=99) == Chest(BOXES))
        self.assertFalse(Chest(BOXES) != Doubled(BOXES, key=99, extra=0))
        self.assertTrue(Chest(BOXES[:2]) != Chest(BOXES[1::-1]))
        self.assertFalse(Chest(BOXES) == Chest(BOXES + BOXES[:1]))
        for value in WRONG + (deep(40), BOXES, list(BOXES), [Chest(())], Ring()):
            self.assertFalse(Chest(()) == value)
            self.assertFalse(value == Chest(()))
            self.assertTrue(Chest(()) != value)

    def test_never_changes(self):
        chest = ShiftedDouble(BOXES, by=3, key=1, extra=7)
        before = chest.content()
        chest.opening((1,))
        self.assertEqual(chest.content(), before)

    def test_arguments_by_name(self):
        self.assertEqual(Chest(boxes=()).opening(keys=()), ((), ()))
        for kind, named in ((Without, {"key": 1}), (Shifted, {"by": 1}), (Doubled, {"key": 1, "extra": 2}),
                            (ShiftedDouble, {"by": 1, "key": 1, "extra": 2}),
                            (DoubledShift, {"by": 1, "key": 1, "extra": 2})):
            self.assertEqual(kind(boxes=(), **named).opening(keys=(1,)), ((1,), ()))
            with self.assertRaises(TypeError):
                kind((), *named.values())
