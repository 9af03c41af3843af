"""Reading of written forms ([21])."""

import unittest

from sealshelf.errors import InvalidText
from sealshelf.readings import read_box, read_boxes, read_keys, read_shelf, read_thing
from sealshelf.texts import box_text, boxes_text, keys_text, shelf_text, thing_text
from tests.making import some_shelf, told
from tests.naive import MEMO

SIXTY = "1" + "0" * 59
BAD_NUMBERS = ("", "-", "-1", "+1", "01", "00", " 1", "1 ", "1.0", "a", "1a", "0x1", "1_0", "\n", "1\n", "\n1", SIXTY + "0",
               "\u0661")
BAD_TEXTS = ("memo.", ".0", ".", "memo.00", "memo.-1", "memo.0.0", "Memo.0", "memo0.0", "toolongname.0", "memo.0\n",
             "\nmemo.0", "memo,0", "memo", "memo. 0", "0.memo", "memo." + SIXTY + "0")
BAD_KEYS = ("", ",", "1,", ",1", "1,,2", "2,1", "1,1", "1,-", "-,1", "--", "1,02", "memo.0", "1,2\n", "1,\n2", "1;2",
            "10,9")
BAD_BOXES = ("", ":", "1", "1:", ":1", "1:-", "1:1", "1:1,2", "1:2,1", "1:2,2", "1:2:3", "memo.0", "memo.0:", "memo:1",
             "-:1", "-", "1:2\n", "1:\n2", "01:2", "1:02", "1;2")


class Readings(unittest.TestCase):
    def raises(self, at_row, at_field, read, text, **named):
        with self.assertRaises(InvalidText) as caught:
            read(text, **named)
        self.assertEqual((caught.exception.row, caught.exception.field), (at_row, at_field), repr(text))

    def test_example(self):
        self.assertEqual([read_thing("memo.0"), read_keys("-"), read_box("3:1,2"), read_boxes("-"),
                          read_shelf("2:1\nann 1")],
                         [MEMO, (), (3, (1, 2)), (), ((("ann", (1,)),), ((2, (1,)),))])
        self.raises(4, 1, read_boxes, "2:1 3:2,2", row=4)
        self.raises(2, 0, read_shelf, "2:1\nbob -\nann 1")

    def test_things(self):
        self.assertEqual([read_thing("0"), read_thing(SIXTY), read_thing("world." + SIXTY)],
                         [0, 10 ** 59, ("world", 10 ** 59)])
        for text in BAD_NUMBERS + BAD_TEXTS:
            with self.assertRaises(InvalidText, msg=repr(text)):
                read_thing(text)

    def test_keys(self):
        self.assertEqual([read_keys("0"), read_keys("9,10"), read_keys("0," + SIXTY)], [(0,), (9, 10), (0, 10 ** 59)])
        for text in BAD_KEYS:
            self.raises(0, 0, read_keys, text)

    def test_boxes_of_one_word(self):
        self.assertEqual([read_box("memo.3:0"), read_box("0:1")], [(("memo", 3), (0,)), (0, (1,))])
        for text in BAD_BOXES:
            self.raises(0, 0, read_box, text)

    def test_words_too_many(self):
        for read, word in ((read_thing, "1"), (read_thing, "memo.0"), (read_keys, "1,2"), (read_keys, "-"),
                           (read_box, "1:2"), (read_boxes, "-")):
            self.raises(0, 1, read, word + " " + word)
            self.raises(0, 1, read, word + " ")
            self.raises(0, 1, read, word + "  ")
            self.raises(0, 0, read, " " + word)

    def test_empty_words(self):
        for read in (read_thing, read_keys, read_box, read_boxes, read_shelf):
            self.raises(0, 0, read, "")
            self.raises(0, 0, read, " ")
        self.raises(0, 1, read_boxes, "1:2  3:4")
        self.raises(0, 2, read_boxes, "1:2 3:4 ")
        self.raises(0, 0, read_boxes, " 1:2")

    def test_the_first_word_that_cannot_stand(self):
        self.raises(0, 0, read_thing, "x y")
        self.raises(0, 1, read_boxes, "1:2 3:3 ")
        self.raises(0, 1, read_boxes, "1:2 - 3:3")
        self.raises(0, 0, read_boxes, "1 - 2")

    def test_newlines_part_no_words(self):
        for read, text in ((read_thing, "1\n"), (read_thing, "memo.0\n1"), (read_keys, "-\n"), (read_keys, "1\n2"),
                           (read_box, "1:2\n3:4"), (read_boxes, "1:2\n3:4"), (read_boxes, "-\n"), (read_boxes, "\n")):
            self.raises(0, 0, read, text)
        self.raises(0, 1, read_boxes, "1:2 3:4\nann 1")

    def test_row_and_field_are_added(self):
        for read in (read_thing, read_keys, read_box, read_boxes):
            self.raises(5, 7, read, "x", row=5, field=7)
            self.raises(5, 8, read, "1:2 x" if read == read_boxes else {read_box: "1:2"}.get(read, "1") + " x",
                        row=5, field=7)
            self.raises(0, 7, read, "", field=7)
            self.raises(5, 0, read, "", row=5)
        self.raises(2, 4, read_boxes, "- -", row=2, field=3)

    def test_shelves(self):
        self.assertEqual(read_shelf("-"), ((), ()))
        self.assertEqual(read_shelf("1:2 1:2\nann -\nbob 0,1"), ((("ann", ()), ("bob", (0, 1))), ((1, (2,)), (1, (2,)))))

    def test_lines_of_a_shelf(self):
        for text, row, field in (("-\n", 1, 0), ("-\n\nann 1", 1, 0), ("\nann 1", 0, 0), ("- \nann 1", 0, 1),
                                 ("-\nann", 1, 1), ("-\nann ", 1, 1), ("-\nann 1 2", 1, 2), ("-\nann 1 ", 1, 2),
                                 ("-\nann  1", 1, 1), ("-\n ann 1", 1, 0), ("-\nworld 1", 1, 0), ("-\nAnn 1", 1, 0),
                                 ("-\nann 1\nann 1", 2, 0), ("-\nbob 1\nann", 2, 0), ("-\nann x y", 1, 1),
                                 ("-\nann 2,1", 1, 1), ("-\nworld x", 1, 0), ("1:1\nworld 1", 0, 0),
                                 ("1:2 3:3\nann 1", 0, 1), ("-\nann 1\nbob 2\n", 3, 0), ("-\nbob 1\nann x", 2, 0),
                                 ("-\n-", 1, 0), ("-\nann -\nbob - -", 2, 2), ("-\nann 1\nbob", 2, 1)):
            self.raises(row, field, read_shelf, text)

    def test_what_is_written_is_read(self):
        for seed in range(150):
            shelf = some_shelf(seed)
            self.assertEqual(read_shelf(shelf_text(shelf)), shelf)
            self.assertEqual(read_boxes(boxes_text(shelf[1])), shelf[1])
            for box in shelf[1]:
                self.assertEqual(read_box(box_text(box)), box)
                self.assertEqual(read_thing(thing_text(box[0])), box[0])
                self.assertEqual(read_keys(keys_text(box[1])), box[1])

    def test_what_is_read_is_written(self):
        text = "memo.0:3 2:1,9\nann -\nbob 1,5"
        letters = " \n-:.,0129ab"
        for k in range(len(text)):
            for changed in [text[:k] + text[k + 1:]] + [text[:k] + c + text[k + 1:] for c in letters] + [
                    text[:k] + c + text[k:] for c in letters]:
                shelf = told(read_shelf, changed)
                if shelf[0] != "InvalidText":
                    self.assertEqual(shelf_text(shelf), changed)
                line = told(read_boxes, changed)
                if line[:1] != ("InvalidText",):
                    self.assertEqual(boxes_text(line), changed)

    def test_no_limit_for_words_and_lines(self):
        boxes = tuple((k + 1, (k,)) for k in range(3000))
        self.assertEqual(read_boxes(boxes_text(boxes)), boxes)
        names = sorted(a + b + c for a in "abcdefghij" for b in "abcdefghij" for c in "abcdefghij")
        shelf = (tuple((name, ()) for name in names), ())
        self.assertEqual(read_shelf(shelf_text(shelf)), shelf)
        self.raises(1001, 0, read_shelf, shelf_text(shelf) + "\n")

    def test_arguments(self):
        for read in (read_thing, read_keys, read_box, read_boxes):
            with self.assertRaises(TypeError):
                read("1", 0, 0)
        self.assertEqual([read_thing(text="1"), read_keys(text="1"), read_box(text="1:2"), read_boxes(text="-"),
                          read_shelf(text="-")], [1, (1,), (1, (2,)), (), ((), ())])
