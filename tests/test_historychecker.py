"""The checker of histories ([5], [36])."""

import unittest

from sealshelf.errors import InvalidPaper
from sealshelf.historychecker import is_history, lets_history
from tests.making import WRONG, deep, told, variants
from tests.naivetimes import DAYS, MEMO, history_error, some_history

BOX = (1, (0,))
OPENED = (("hand", "ann", 0), ("put", BOX), ("open", "ann", 0))


class HistoryChecker(unittest.TestCase):
    def raises(self, word, at, history):
        with self.assertRaises(InvalidPaper) as caught:
            lets_history(history)
        self.assertEqual((caught.exception.word, caught.exception.at), (word, at))
        self.assertIs(is_history(history), False)

    def agrees(self, history):
        """The checker does with this value what the plain one does."""
        wanted = history_error(history)
        got = told(lets_history, history)
        self.assertEqual(got, ("InvalidPaper", *wanted) if isinstance(wanted, tuple) else wanted, repr(history))
        self.assertIs(is_history(history), not isinstance(wanted, tuple))
        return got

    def test_example(self):
        self.assertEqual(lets_history(DAYS), 2)
        self.raises("keys", 7, DAYS + (("open", "bob", 1),))

    def test_no_deeds(self):
        self.assertEqual([lets_history(()), is_history(())], [0, True])

    def test_shape(self):
        for deed in (None, (), [], "hand", ("hand",), ("hand", "ann"), ("hand", "ann", True), ("hand", "ann", -1),
                     ("hand", "Ann", 0), ("hand", "ann", 0, 0), ["hand", "ann", 0], ("put",), ("put", (0, (0,))),
                     ("put", (1, ())), ("put", (1, (2, 0))), ("put", [1, (0,)]), ("put", BOX, 0), ("put", 1, (0,)),
                     ("take",), ("take", True), ("take", -1), ("take", "0"), ("take", 0, 0), ("open", "ann"),
                     ("open", 0, "ann"), ("open", "ann", None), ("open", "ann", 0, 0), ("leak",), ("leak", None),
                     ("leak", (0,)), ("leak", False), ("come", "ann"), ("Hand", "ann", 0), (0, "ann", 0),
                     (None,), ([], 0), (("hand",), "ann", 0), ("hand", ["ann"], 0)):
            self.raises("shape", -1, (deed,))
            self.raises("shape", -1, (("take", 9), ("hand", "world", 0), deed))
        for history in (None, list(DAYS), "", 0, {}, True):
            self.raises("shape", -1, history)

    def test_world_is_no_holder(self):
        self.raises("holder", 0, (("hand", "world", 0),))
        self.raises("holder", 2, (("leak", 0), ("put", BOX), ("open", "world", 0)))
        self.raises("holder", 0, (("open", "world", 7),))

    def test_lies(self):
        self.raises("lies", 0, (("take", 0),))
        self.raises("lies", 1, (("put", BOX), ("take", 1)))
        self.raises("lies", 2, (("put", BOX), ("take", 0), ("take", 0)))
        self.raises("lies", 3, OPENED[:2] + (("take", 0), ("open", "ann", 0)))
        self.raises("lies", 0, (("open", "ann", 0),) + OPENED)
        self.raises("lies", 0, (("open", "ann", 10 ** 59),))

    def test_keys(self):
        self.assertEqual(lets_history(OPENED), 1)
        self.raises("keys", 2, OPENED[:2] + (("open", "bob", 0),))
        self.raises("keys", 1, (("put", BOX), ("open", "ann", 0), ("hand", "ann", 0)))
        # The keys of the others and of the world are not the holder's own.
        self.raises("keys", 3, (("leak", 0), ("hand", "bob", 0), ("put", BOX), ("open", "ann", 0)))
        two = (("hand", "ann", 0), ("hand", "bob", 5), ("put", (1, (0, 5))))
        self.raises("keys", 3, two + (("open", "ann", 0),))
        self.assertEqual(lets_history(two + (("hand", "ann", 5), ("open", "ann", 0))), 1)

    def test_keys_that_were_remembered(self):
        # Box 0 was taken, but what was in it is remembered; what lies there only later is not.
        early = (("hand", "ann", 0), ("put", BOX), ("take", 0), ("put", (2, (1,))))
        self.assertEqual(lets_history(early + (("open", "ann", 1),)), 2)
        late = (("put", BOX), ("take", 0), ("hand", "ann", 0), ("put", (2, (1,))))
        self.raises("keys", 4, late + (("open", "ann", 1),))
        self.assertEqual(lets_history(late + (("put", BOX), ("open", "ann", 1), ("open", "ann", 2))), 3)

    def test_same_key_and_same_box_again(self):
        history = (("hand", "ann", 0), ("hand", "ann", 0), ("put", BOX), ("put", BOX), ("take", 0), ("put", BOX),
                   ("leak", 0), ("leak", 0), ("take", 1), ("open", "ann", 2), ("open", "ann", 2))
        self.assertEqual(lets_history(history), 3)
        self.raises("lies", 11, history + (("take", 0),))

    def test_first_of_two_errors(self):
        self.raises("shape", -1, (("take", 0), ("hand", "world", 0), None))
        self.raises("holder", 0, (("open", "world", 0), ("take", 0)))
        self.raises("lies", 0, (("take", 0), ("hand", "world", 0)))
        self.raises("lies", 2, OPENED[:2] + (("open", "bob", 1), ("open", "world", 0)))
        self.raises("keys", 2, OPENED[:2] + (("open", "bob", 0), ("take", 7)))

    def test_every_value(self):
        for value in WRONG + (deep(40), DAYS + (deep(38),)):
            self.agrees(value)
            self.agrees((value,))
            for deed in DAYS + (("open", "ann", 1),):
                for k in range(len(deed)):
                    self.agrees(DAYS[:4] + (deed[:k] + (value,) + deed[k + 1:],))

    def test_histories_changed_at_one_place(self):
        words = set()
        for seed in range(40):
            for value in variants(some_history(seed, most=9)):
                got = self.agrees(value)
                words.add(got[1] if isinstance(got, tuple) else "right")
        self.assertEqual(words, {"shape", "holder", "lies", "keys", "right"})

    def test_long_values_come_to_an_end(self):
        names = ["a" + chr(97 + k // 26) + chr(97 + k % 26) for k in range(400)]
        hands = tuple(("hand", name, 0) for name in names)
        history = hands + tuple(("put", (k + 1, (0,))) for k in range(300)) + tuple(("open", name, 7) for name in names)
        self.assertEqual(lets_history(history), 300)
        self.raises("keys", 1100, history + (("open", "zoe", 0),))
        self.assertEqual(lets_history((("put", BOX),) * 800), 800)
        self.assertEqual(lets_history((("put", (MEMO, (7,))),) + (("leak", 7),) * 1200), 1)

    def test_arguments_by_name(self):
        self.assertEqual([lets_history(thing=()), is_history(thing=None)], [0, False])
