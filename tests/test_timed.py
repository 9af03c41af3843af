"""Timed ways, tables and their checkers ([40], [41], [42])."""

import unittest

from sealshelf.errors import InvalidMoment, InvalidPaper, UnknownHolder
from sealshelf.timedchecker import lets_table, lets_timed
from sealshelf.timedways import table_without, timed_way
from tests.making import WRONG, deep, told, variants
from tests.naivetimes import DAYS, MEMO, groups_of, had, pairs, some_history, table_error, timed_error
from tests.test_lyings import NO_MOMENTS

WORDS = ("now", "remembered", "copied")
GROUP = ("ann", "world")
WAY = ((2, 0), (7, 1))
TABLE = (((), ()), ((0,), ()), ((0, 1), ()))
THINGS = (0, 1, 4, MEMO, ("memo", 1))


class Timed(unittest.TestCase):
    def raises(self, word, at, check, *arguments):
        with self.assertRaises(InvalidPaper) as caught:
            check(*arguments)
        self.assertEqual((caught.exception.word, caught.exception.at), (word, at))
        self.assertIs(type(caught.exception.at), type(at))

    def timed(self, word, at, paper, way="remembered", moment=7, group=GROUP, thing=MEMO):
        self.raises(word, at, lets_timed, DAYS, group, moment, thing, way, paper)

    def table(self, word, at, paper, moment=2, group=("ann",), thing=MEMO):
        self.raises(word, at, lets_table, DAYS, group, moment, thing, paper)

    def agrees(self, check, plain, *arguments):
        """The checker does with these arguments what the plain one does."""
        wanted = plain(*arguments)
        got = told(check, *arguments)
        wanted = ("InvalidPaper", *wanted) if isinstance(wanted, tuple) else wanted
        self.assertEqual(got, tuple(wanted) if isinstance(wanted, list) else wanted, repr(arguments))
        return got

    def test_example(self):
        self.assertEqual(lets_timed(DAYS, GROUP, 7, MEMO, "remembered", WAY), 2)
        self.timed("keys", 1, ((2, 0), (6, 1)))
        self.table("box", (2, 0), (((), ()), ((0,), ()), ((0,), ())))

    def test_no_deeds(self):
        for word in WORDS:
            self.assertIsNone(timed_way((), (), 0, 0, word))
            self.assertEqual(told(lets_timed, (), ("world",), 0, 0, word, ()), ("InvalidPaper", "last", -1))
        self.assertEqual(table_without((), (), 0, 0), (((), ()),))
        self.assertEqual(lets_table((), (), 0, MEMO, (((), ()),)), (0, 0))

    def test_thing_in_the_hand(self):
        for word in WORDS:
            self.assertEqual(timed_way(DAYS, ("bob",), 3, 2, word), ())
            self.assertEqual(lets_timed(DAYS, ("bob",), 3, 2, word, ()), 0)
            self.timed("last", -1, (), way=word, moment=2, group=("bob",), thing=2)
        self.assertIsNone(table_without(DAYS, ("bob",), 3, 2))

    def test_timed_shape(self):
        for paper in (None, [], [(2, 0), (7, 1)], ([2, 0], (7, 1)), ((2, 0, 0),), ((2,),), ((True, 0),), ((2, False),),
                      (2, 0), ((-1, 0),), ((2, None),), (("2", 0),), ((9, 9), None)):
            self.timed("shape", -1, paper)
        for word in ("now", "copied"):
            for paper in (None, [0, 1], 0, (True,), (0, -1), ((2, 0),), (0, None), ("0",), (9, [])):
                self.timed("shape", -1, paper, way=word)

    def test_moments(self):
        self.timed("moment", 0, ((8, 0),))
        self.timed("moment", 0, ((10 ** 59, 0),))
        self.timed("moment", 1, ((2, 0), (8, 1)))
        self.timed("moment", 1, ((3, 0), (2, 0)))
        self.timed("moment", 0, ((3, 0),), moment=2)
        # Moments may stay as they are, and steps may be repeated.
        self.assertEqual(lets_timed(DAYS, GROUP, 7, MEMO, "remembered", ((2, 0), (2, 0), (4, 0), (7, 1), (7, 1))), 5)

    def test_lies(self):
        for step in ((1, 0), (0, 0), (5, 0), (2, 1), (7, 2), (7, 10 ** 59)):
            self.timed("lies", 0, (step,))
        self.timed("lies", 0, (0,), way="now")
        self.timed("lies", 0, (1,), way="now", moment=3)
        self.timed("lies", 0, (0,), way="copied", moment=1)
        self.timed("lies", 1, (0, 1), way="copied", moment=3)
        self.timed("lies", 0, (2,), way="copied")
        # Put 0 was taken, but it was put until then.
        self.assertEqual(lets_timed(DAYS, ("bob",), 7, MEMO, "copied", (0, 1)), 2)

    def test_keys(self):
        self.timed("keys", 0, ((7, 1),))
        self.timed("keys", 0, ((2, 0),), group=("bob",))
        self.timed("keys", 0, (1, 0), way="copied", group=("bob",))
        self.timed("keys", 0, (1,), way="now")
        self.assertEqual(lets_timed(DAYS, ("ann", "bob"), 4, MEMO, "now", (0, 1)), 2)

    def test_last(self):
        self.timed("last", -1, ())
        self.timed("last", -1, ((2, 0),))
        self.timed("last", -1, (0,), way="copied", group=("bob",))
        self.timed("last", -1, ((2, 0), (7, 1)), thing=3)

    def test_first_of_two_timed_errors(self):
        self.timed("shape", -1, ((9, 9), (2,)))
        self.timed("moment", 0, ((8, 9),))
        self.timed("lies", 0, ((7, 9), (6, 0)))
        self.timed("keys", 0, ((7, 1), (6, 0)))
        self.timed("moment", 1, ((2, 0), (1, 9)))

    def test_table_shape(self):
        for paper in (None, [], [((), ())] * 3, ((), (), ()), (((),),) * 3, ([(), ()],) * 3, (((), ()), ((0,), ()), None),
                      (((), ()), ((1, 0), ()), ((0, 1), ())), (((), ()), ((True,), ()), ((0, 1), ())),
                      (((), ()), ((0, 0), ()), ((0, 1), ())), (((), (MEMO, MEMO)),) * 3, (((), (1,)),) * 3,
                      (((), (("memo", True),)),) * 3):
            self.table("shape", -1, paper)

    def test_table_errors(self):
        self.assertEqual(lets_table(DAYS, ("ann",), 2, MEMO, TABLE), (2, 0))
        for paper in ((), TABLE[:2], TABLE + TABLE[2:]):
            self.table("many", -1, paper)
        self.table("before", 2, TABLE[:1] + (((0, 7), ()), ((0, 1), ())))
        self.table("before", 1, (((), (("a", 0),)),) + TABLE[1:])
        self.table("hand", 1, (((), ()), ((1,), ()), ((0, 1), ())))
        self.table("box", (2, 0), TABLE[:2] + (((0,), ()),))
        self.table("there", -1, TABLE, thing=1)
        self.assertEqual(lets_table(DAYS, ("ann",), 2, 5, (((7,), ()), ((0, 7), ()), ((0, 1, 7), (MEMO,)))), (3, 1))

    def test_box_names_the_first_put(self):
        history = (("hand", "ann", 0), ("put", (1, (0,))), ("put", (2, (0,))), ("put", (3, (9,))), ("take", 0),
                   ("put", (4, (0,))))
        rows = (((), ()), ((0,), ()), ((0, 1), ()), ((0, 1), ()), ((0, 1, 2), ()))
        self.raises("box", (3, 1), lets_table, history, ("ann",), 4, MEMO, rows)
        late = rows[:3] + (((0, 1, 2), ()),) * 3
        self.raises("box", (6, 3), lets_table, history, ("ann",), 6, MEMO, late + (((0, 1, 2), ()),))

    def test_first_of_two_table_errors(self):
        self.table("shape", -1, (None,))
        self.table("many", -1, (((), ()),) * 2)
        self.table("before", 1, (((1,), ()), ((), ()), ((), ())))
        self.table("hand", 1, (((), ()), ((), ()), ((), ())))
        self.table("hand", 1, (((), ()), ((1,), ()), ((0,), ())))
        self.table("box", (2, 0), TABLE[:2] + (((0,), (MEMO,)),), thing=MEMO)

    def test_there_is_a_way_or_a_table_never_both(self):
        for seed in range(120):
            history = some_history(seed)
            for group in groups_of(history):
                for moment in {0, len(history) // 2, len(history)}:
                    for thing in THINGS:
                        self.check(history, group, moment, thing)

    def check(self, history, group, moment, thing):
        for word in WORDS:
            way = timed_way(history, group, moment, thing, word)
            self.assertEqual(way is not None, thing in had(history, group, moment, word))
            if way is not None:
                self.assertEqual(timed_error(history, group, moment, thing, word, way), len(way))
                self.assertEqual(lets_timed(history, group, moment, thing, word, way), len(way))
        table = table_without(history, group, moment, thing)
        self.assertEqual(table is None, thing in had(history, group, moment, "remembered"))
        if table is not None:
            self.assertEqual(lets_table(history, group, moment, thing, table), tuple(map(len, table[-1])))
            self.assertIsInstance(table_error(history, group, moment, thing, table), list)
        least = tuple(pairs(history, group, t, "remembered") for t in range(moment + 1))
        self.assertEqual(told(lets_table, history, group, moment, thing, least)[0] == "InvalidPaper", table is None)

    def test_ways_changed_at_one_place(self):
        words = set()
        for seed in range(50):
            history = some_history(seed)
            for word in WORDS:
                for thing in (1, MEMO):
                    case = (history, ("ann", "world") if self.known(history) else ("world",), len(history), thing, word)
                    for paper in variants(timed_way(*case) or ((1, 0), (2, 0))):
                        got = self.agrees(lets_timed, timed_error, *case, paper)
                        words.add(got[1] if isinstance(got, tuple) else "right")
        self.assertEqual(words, {"shape", "moment", "lies", "keys", "last", "right"})

    def known(self, history):
        return any(deed[:2] == ("hand", "ann") for deed in history)

    def test_tables_changed_at_one_place(self):
        words = set()
        for seed in range(40):
            history = some_history(seed, most=8)
            group = ("ann", "world") if self.known(history) else ("world",)
            for thing in (1, MEMO, 77):
                case = (history, group, len(history), thing)
                for paper in variants(table_without(*case)):
                    got = self.agrees(lets_table, table_error, *case, paper)
                    words.add(got[1] if got[0] == "InvalidPaper" else "right")
        self.assertEqual(words, {"shape", "many", "before", "hand", "box", "there", "right"})

    def test_every_value(self):
        for paper in WRONG + (deep(40), ((2, 0),) * 1600, (0,) * 4900, (tuple(range(4000)), ())):
            for word in WORDS:
                self.agrees(lets_timed, timed_error, DAYS, GROUP, 7, MEMO, word, paper)
            self.agrees(lets_table, table_error, DAYS, GROUP, 0, MEMO, paper)
            self.agrees(lets_table, table_error, DAYS, GROUP, 0, MEMO, (paper,))
            self.agrees(lets_table, table_error, DAYS, GROUP, 1, MEMO, (((), ()), paper))

    def calls(self, group, moment):
        for word in WORDS:
            yield timed_way, (DAYS, group, moment, MEMO, word)
            for paper in (None, ()):
                yield lets_timed, (DAYS, group, moment, MEMO, word, paper)
        yield table_without, (DAYS, group, moment, MEMO)
        for paper in (None, ()):
            yield lets_table, (DAYS, group, moment, MEMO, paper)

    def test_unknown_holder_comes_first(self):
        for value in [value for value in WRONG + (deep(40), ["ann"], "cy") if value != "world"] + ["ann"]:
            for moment in (7, 8, None):
                for call, arguments in self.calls(("ann", value, "zoe"), moment):
                    with self.assertRaises(UnknownHolder) as caught:
                        call(*arguments)
                    self.assertEqual(caught.exception.holder, value)

    def test_invalid_moment_comes_before_the_paper(self):
        for moment in NO_MOMENTS:
            for call, arguments in self.calls(("ann",), moment):
                with self.assertRaises(InvalidMoment) as caught:
                    call(*arguments)
                self.assertEqual(caught.exception.moment, moment)
                self.assertIs(type(caught.exception.moment), type(moment))

    def test_arguments_by_name(self):
        self.assertIsNone(timed_way(word="now", thing=0, moment=0, group=(), history=()))
        self.assertEqual(table_without(thing=0, moment=0, group=(), history=()), (((), ()),))
        self.assertEqual(lets_timed(paper=(), word="now", thing=2, moment=3, group=("bob",), history=DAYS), 0)
        self.assertEqual(lets_table(paper=(((), ()),), thing=0, moment=0, group=(), history=()), (0, 0))
