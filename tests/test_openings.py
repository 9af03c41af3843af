"""What is opened ([3], [12], [17])."""

import unittest

from sealshelf.openings import openable, opened, opens
from tests.making import some_case
from tests.naive import BOXES, MEMO, closure, pair


class Openings(unittest.TestCase):
    def test_example(self):
        self.assertEqual([opened((1,), BOXES), openable((1,), BOXES), openable((2, 3), BOXES)],
                         [((1, 2, 3, 4), (MEMO,)), (0, 4), (1, 2)])
        self.assertEqual([opened((2,), BOXES), opens((4,), BOXES, MEMO), opens((3, 4), BOXES, 4)],
                         [((2, 3), (MEMO,)), False, True])

    def test_nothing(self):
        self.assertEqual(opened((), ()), ((), ()))
        self.assertEqual(opened((), BOXES), ((), ()))
        self.assertEqual(opened((3, 9), ()), ((3, 9), ()))
        self.assertEqual(openable((), BOXES), ())
        self.assertIs(opens((), BOXES, MEMO), False)

    def test_thing_among_the_keys(self):
        self.assertIs(opens((9,), (), 9), True)
        self.assertEqual(openable((1, 2), BOXES), (0, 1, 4))

    def test_box_with_all_keys_whose_thing_is_there(self):
        self.assertEqual(openable((1, 2), ((2, (1,)), (2, (1,)))), (0, 1))

    def test_ring(self):
        ring = ((1, (2,)), (2, (1,)), (MEMO, (1, 2)))
        self.assertEqual(opened((), ring), ((), ()))
        self.assertEqual(opened((2,), ring), ((1, 2), (MEMO,)))

    def test_equal_boxes(self):
        self.assertEqual(opened((1,), ((2, (1,)),) * 3), ((1, 2), ()))
        self.assertEqual(openable((1,), ((2, (1,)),) * 3), (0, 1, 2))

    def test_box_waits_for_all_its_keys(self):
        self.assertEqual(opened((1, 2), ((MEMO, (1, 2, 3)),)), ((1, 2), ()))

    def test_texts_ascend(self):
        boxes = ((("b", 0), (1,)), (("a", 10), (1,)), (("a", 9), (1,)))
        self.assertEqual(opened((1,), boxes), ((1,), (("a", 9), ("a", 10), ("b", 0))))

    def test_long_chain_backwards(self):
        chain = tuple((k + 1, (k,)) for k in reversed(range(400)))
        self.assertEqual(opened((0,), chain), (tuple(range(401)), ()))

    def test_cases(self):
        for seed in range(300):
            keys, boxes, thing = some_case(seed)
            there = closure(keys, boxes)
            self.assertEqual(opened(keys, boxes), pair(there))
            self.assertIs(opens(keys, boxes, thing), thing in there)
            wanted = tuple(b for b, box in enumerate(boxes) if set(box[1]) <= set(keys))
            self.assertEqual(openable(keys, boxes), wanted)

    def test_consequences(self):
        for seed in range(100):
            keys, boxes, _ = some_case(seed)
            found, texts = opened(keys, boxes)
            self.assertEqual(opened(found, boxes), (found, texts))
            fewer = opened(keys[1:], boxes[1:])
            self.assertTrue(set(fewer[0]) <= set(found) and set(fewer[1]) <= set(texts))

    def test_arguments_by_name(self):
        self.assertEqual(opened(keys=(1,), boxes=()), ((1,), ()))
        self.assertIs(opens(thing=1, keys=(1,), boxes=()), True)
        self.assertEqual(openable(boxes=(), keys=(1,)), ())
