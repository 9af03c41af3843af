"""Written forms ([20])."""

import unittest

from sealshelf.texts import box_text, boxes_text, keys_text, shelf_text, thing_text
from tests.naive import BOXES, MEMO, SHELF


class Texts(unittest.TestCase):
    def test_example(self):
        self.assertEqual([boxes_text(BOXES[2:5]), shelf_text(((("ann", (1, 5)), ("bob", ())), ()))],
                         ["memo.0:3 memo.0:2,4 4:1", "-\nann 1,5\nbob -"])

    def test_things(self):
        self.assertEqual([thing_text(0), thing_text(10 ** 59), thing_text(MEMO), thing_text(("world", 12))],
                         ["0", "1" + "0" * 59, "memo.0", "world.12"])

    def test_keys(self):
        self.assertEqual([keys_text(()), keys_text((0,)), keys_text((1, 20, 300))], ["-", "0", "1,20,300"])

    def test_boxes(self):
        self.assertEqual([box_text((3, (1, 2))), box_text((MEMO, (7,)))], ["3:1,2", "memo.0:7"])
        self.assertEqual([boxes_text(()), boxes_text(((3, (1,)),) * 2)], ["-", "3:1 3:1"])

    def test_shelf(self):
        self.assertEqual(shelf_text(((), ())), "-")
        self.assertEqual(shelf_text(SHELF), "3:0 3:1,2 a.0:3 4:3 b.0:2,4\nann 0\nbob 1\ncy 2")

    def test_arguments_by_name(self):
        self.assertEqual([thing_text(thing=1), keys_text(keys=()), box_text(box=(1, (2,))), boxes_text(boxes=()),
                          shelf_text(shelf=((), ()))], ["1", "-", "1:2", "-", "-"])
