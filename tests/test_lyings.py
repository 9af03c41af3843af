"""What lies there and who has which keys ([37], [10])."""

import unittest

from sealshelf.errors import InvalidMoment, UnknownHolder
from sealshelf.lyings import boxes_put, hand_at, holders_of, lying
from tests.making import WRONG, deep
from tests.naivetimes import DAYS, MEMO, groups_of, hand, holders, puts, some_history, there

NO_MOMENTS = [value for value in WRONG if type(value) is not int or value not in (0, 1, 7)] + [8, -8, deep(40), [3], 7.5]


class Lyings(unittest.TestCase):
    def test_example(self):
        self.assertEqual([lying(DAYS, 4), lying(DAYS, 5), hand_at(DAYS, ("ann", "world"), 7)], [(0, 1), (1,), (0, 2)])
        with self.assertRaises(InvalidMoment) as caught:
            lying(DAYS, 8)
        self.assertEqual(caught.exception.moment, 8)

    def test_no_deeds(self):
        self.assertEqual([boxes_put(()), lying((), 0), hand_at((), (), 0), hand_at((), ("world",), 0), holders_of(())],
                         [(), (), (), (), ()])

    def test_from_behind_the_put_until_the_take(self):
        self.assertEqual([lying(DAYS, moment) for moment in range(8)],
                         [(), (), (0,), (0,), (0, 1), (1,), (1,), (1,)])
        self.assertEqual(boxes_put(DAYS), ((1, (0,)), (MEMO, (1, 2))))

    def test_box_put_again_is_another_put(self):
        box = (1, (0,))
        history = (("put", box), ("put", box), ("take", 0), ("put", box), ("take", 1))
        self.assertEqual([lying(history, moment) for moment in range(6)], [(), (0,), (0, 1), (1,), (1, 2), (2,)])
        self.assertEqual(boxes_put(history), (box, box, box))

    def test_hand(self):
        self.assertEqual([hand_at(DAYS, ("bob",), moment) for moment in (0, 2, 3, 6, 7)], [(), (), (2,), (0, 2), (0, 2)])
        self.assertEqual([hand_at(DAYS, ("world",), 6), hand_at(DAYS, ("world",), 7), hand_at(DAYS, (), 7)], [(), (2,), ()])
        self.assertEqual(hand_at((("hand", "ann", 5), ("hand", "ann", 5), ("hand", "ann", 1)), ("ann",), 3), (1, 5))

    def test_holders(self):
        self.assertEqual(holders_of(DAYS), ("ann", "bob"))
        self.assertEqual(holders_of((("leak", 0), ("hand", "zoe", 0), ("hand", "ann", 0), ("hand", "zoe", 1))),
                         ("ann", "zoe"))

    def test_histories(self):
        for seed in range(100):
            history = some_history(seed)
            self.assertEqual(boxes_put(history), tuple(puts(history)))
            self.assertEqual(holders_of(history), tuple(holders(history)))
            for moment in range(len(history) + 1):
                self.assertEqual(lying(history, moment), tuple(there(history, moment)))
                for group in groups_of(history):
                    self.assertEqual(hand_at(history, group, moment), tuple(sorted(hand(history, group, moment))))

    def test_invalid_moment(self):
        for moment in NO_MOMENTS:
            for call, arguments in ((lying, ()), (hand_at, (("ann",),)), (hand_at, ((),))):
                with self.assertRaises(InvalidMoment) as caught:
                    call(DAYS, *arguments, moment)
                self.assertEqual(caught.exception.moment, moment)
                self.assertIs(type(caught.exception.moment), type(moment))

    def test_unknown_holder_comes_first(self):
        for value in WRONG + (deep(40), ["ann"], "cy"):
            for moment in (7, 8, None):
                for group in ((value,), ("ann", value), (value, "ann", 5)):
                    if value != "world":
                        with self.assertRaises(UnknownHolder) as caught:
                            hand_at(DAYS, group, moment)
                        self.assertEqual(caught.exception.holder, value)
        for group, holder in ((("world", "world"), "world"), (("ann", "ann"), "ann"), (("ann", "world", "ann"), "ann")):
            with self.assertRaises(UnknownHolder) as caught:
                hand_at(DAYS, group, True)
            self.assertEqual(caught.exception.holder, holder)

    def test_arguments_by_name(self):
        self.assertEqual([boxes_put(history=()), lying(moment=0, history=()), hand_at(moment=0, group=(), history=()),
                          holders_of(history=())], [(), (), (), ()])
