"""What a group has in the four ways, since when, and apart ([5], [38], [39], [46])."""

import inspect
import random
import unittest

from sealshelf.errors import InvalidMoment, UnknownHolder
from sealshelf.havings import apart, first_moment, gained, had
from tests import naivetimes
from tests.making import WRONG, deep
from tests.naive import pair
from tests.naivetimes import DAYS, MEMO, WORDS, groups_of, pairs, some_history
from tests.test_lyings import NO_MOMENTS

A = ("ann", "bob")


def things_of(told):
    return set(told[0]) | set(told[1])


class Havings(unittest.TestCase):
    def test_example(self):
        self.assertEqual([had(DAYS, A, 4, "now"), had(DAYS, A, 5, "now")], [((0, 1, 2), (MEMO,)), ((0, 2), ())])
        self.assertEqual([first_moment(DAYS, ("bob",), MEMO, word) for word in ("now", "remembered", "copied")],
                         [None, None, 6])
        self.assertEqual(list(gained(DAYS, ("ann", "world"), "remembered")), [(1, 0), (2, 1), (7, 2), (7, MEMO)])
        self.assertEqual([apart(DAYS, A, 4, 5), apart(DAYS, A, 5, 5)], [((0, 1, 2), ()), ((0, 1, 2), (MEMO,))])

    def test_no_deeds(self):
        for word in WORDS:
            for group in ((), ("world",)):
                self.assertEqual([had((), group, 0, word), first_moment((), group, 0, word), list(gained((), group, word))],
                                 [((), ()), None, []])
        self.assertEqual([apart((), (), 0, 0), apart((), ("world",), 0, 0)], [((), ())] * 2)

    def test_nobody_has_nothing(self):
        for word in WORDS:
            self.assertEqual(had(DAYS, (), 7, word), ((), ()))

    def test_at_the_moment_ahead_of_all_deeds(self):
        for word in WORDS:
            self.assertEqual(had(DAYS, ("ann", "bob", "world"), 0, word), ((), ()))

    def test_equal_boxes_are_separate(self):
        box = (1, (0,))
        history = (("put", box), ("put", box), ("take", 0), ("hand", "ann", 0), ("take", 1), ("hand", "bob", 0))
        self.assertEqual([had(history, ("ann",), 4, "now"), had(history, ("bob",), 6, "remembered"),
                          had(history, ("bob",), 6, "copied")], [((0, 1), ()), ((0,), ()), ((0, 1), ())])

    def test_logged_by_those_who_opened(self):
        history = (("hand", "ann", 0), ("hand", "bob", 0), ("put", (1, (0,))), ("put", (MEMO, (1,))), ("open", "ann", 0),
                   ("open", "bob", 1), ("leak", 0))
        self.assertEqual([had(history, group, 7, "logged") for group in (("ann",), ("bob",), A, ("world",))],
                         [((0, 1), ()), ((0,), (MEMO,)), ((0, 1), (MEMO,)), ((0,), ())])
        self.assertEqual([had(history, ("bob",), moment, "logged") for moment in (5, 6)], [((0,), ()), ((0,), (MEMO,))])

    def test_together_from_the_beginning(self):
        # Ann alone would know key 1 only while box 0 lies there; together they open it in time.
        history = (("hand", "ann", 0), ("hand", "bob", 5), ("put", (1, (0, 5))), ("take", 0), ("put", (MEMO, (1,))))
        self.assertEqual(had(history, A, 5, "remembered"), ((0, 1, 5), (MEMO,)))
        self.assertEqual(apart(history, A, 5, 4), ((0, 5), ()))
        self.assertEqual(apart(history, A, 5, 3), ((0, 1, 5), (MEMO,)))

    def test_word_by_word(self):
        for seed in range(120):
            history = some_history(seed)
            for group in groups_of(history):
                for word in WORDS:
                    seen = {}
                    for moment in range(len(history) + 1):
                        told = had(history, group, moment, word)
                        self.assertEqual(told, pairs(history, group, moment, word))
                        for thing in told[0] + told[1]:
                            seen.setdefault(thing, moment)
                    self.assertEqual(list(gained(history, group, word)), [(moment, thing) for thing, moment in seen.items()])
                    for thing in (0, 1, 3, MEMO, ("memo", 1), 77):
                        self.assertEqual(first_moment(history, group, thing, word), seen.get(thing))

    def test_apart_word_by_word(self):
        for seed in range(60):
            history = some_history(seed, most=10)
            for group in groups_of(history):
                for moment in range(len(history) + 1):
                    for since in range(len(history) + 1):
                        self.assertEqual(apart(history, group, moment, since),
                                         pair(naivetimes.apart(history, group, moment, since)))

    def test_consequences(self):
        for seed in range(80):
            history = some_history(seed + 500)
            rng = random.Random(seed)
            last = len(history)
            for group in groups_of(history):
                moment = rng.randrange(last + 1)
                now, remembered, copied, logged = [things_of(had(history, group, moment, word)) for word in WORDS]
                self.assertTrue(now <= remembered <= copied and logged <= remembered)
                for word in WORDS:
                    more = tuple(sorted({*group, "world"}))
                    self.assertLessEqual(things_of(had(history, group, moment, word)),
                                         things_of(had(history, more, moment, word)))
                    longer = history + (("leak", 0), ("put", (MEMO, (0,))))
                    self.assertEqual(had(longer, group, moment, word), had(history, group, moment, word))
                self.assertEqual(apart(history, group, moment, 0), had(history, group, moment, "remembered"))
                since = rng.randrange(last + 1)
                self.assertLessEqual(things_of(apart(history, group, last, since)),
                                     things_of(had(history, group, last, "remembered")))
                self.assertLessEqual(things_of(had(history, group, last, "now")),
                                     things_of(apart(history, group, last, since)))
                for word, kinds in (("copied", ("hand", "put", "leak")), ("remembered", ("hand", "put", "leak")),
                                    ("logged", ("hand", "leak", "open"))):
                    for first, _ in gained(history, group, word):
                        self.assertIn(history[first - 1][0], kinds)

    def test_gained_is_a_generator_in_order(self):
        self.assertTrue(inspect.isgeneratorfunction(gained))
        history = (("put", (("memo", 1), (3,))), ("put", (MEMO, (3,))), ("put", (2, (3,))), ("hand", "ann", 3))
        self.assertEqual(list(gained(history, ("ann",), "now")), [(4, 2), (4, 3), (4, MEMO), (4, ("memo", 1))])
        lost = history[:3] + (("hand", "ann", 3), ("take", 2), ("put", (2, (3,))))
        self.assertEqual([one for _, one in gained(lost, ("ann",), "now")], [2, 3, MEMO, ("memo", 1)])

    def test_sixty_deeds(self):
        history = (("hand", "ann", 0), ("hand", "bob", 1), ("hand", "cy", 2), ("hand", "dee", 3), ("hand", "eve", 4))
        for k in range(18):
            history += (("put", (k + 5, (k % 5, k + 4))), ("put", (("memo", k), (k + 5,))), ("take", 2 * k))
        history += (("leak", 5),)
        names = ("ann", "bob", "cy", "dee", "eve")
        self.assertEqual([len(had(history, names, 60, word)[1]) for word in WORDS], [0, 18, 18, 0])
        self.assertEqual([first_moment(history, names, ("memo", 17), word) for word in WORDS], [None, 58, 58, None])
        self.assertEqual(apart(history, names + ("world",), 60, 59), (tuple(range(6)), (MEMO,)))

    def test_unknown_holder(self):
        for value in [value for value in WRONG + (deep(40), ["ann"], "cy") if value != "world"] + ["ann"]:
            group = ("ann", value, "zoe")
            for call in (lambda: had(DAYS, group, 9, "now"), lambda: first_moment(DAYS, group, 0, "copied"),
                         lambda: list(gained(DAYS, group, "logged")), lambda: apart(DAYS, group, 9, True)):
                with self.assertRaises(UnknownHolder) as caught:
                    call()
                self.assertEqual(caught.exception.holder, value)

    def test_invalid_moment(self):
        for moment in NO_MOMENTS:
            for call in [lambda word=word: had(DAYS, ("ann",), moment, word) for word in WORDS] + [
                    lambda: apart(DAYS, ("ann",), moment, 0), lambda: apart(DAYS, ("ann",), 0, moment),
                    lambda: apart(DAYS, (), moment, "x"), lambda: apart(DAYS, (), moment, 99)]:
                with self.assertRaises(InvalidMoment) as caught:
                    call()
                self.assertEqual(caught.exception.moment, moment)
                self.assertIs(type(caught.exception.moment), type(moment))

    def test_arguments_by_name(self):
        self.assertEqual(had(word="now", moment=0, group=(), history=()), ((), ()))
        self.assertIsNone(first_moment(word="now", thing=0, group=(), history=()))
        self.assertEqual(list(gained(word="now", group=(), history=())), [])
        self.assertEqual(apart(since=0, moment=0, group=(), history=()), ((), ()))
