"""The checker of groups papers ([29])."""

import unittest

from sealshelf.errors import InvalidPaper
from sealshelf.groupchecker import lets_groups
from sealshelf.grouppapers import groups_paper
from tests.making import WRONG, deep, some_shelf, told, variants
from tests.naive import MEMO, SHELF
from tests.naivekeeps import groups_error

A = ("a", 0)
PAPER = (((("ann",), (0, 2)), (("bob", "cy"), (1, 2))), ((("ann", "bob"), ((2,), ())), (("ann", "cy"), ((1,), ()))))
GROUPS, LOCKS = PAPER


class GroupChecker(unittest.TestCase):
    def raises(self, word, at, paper, thing=A, shelf=SHELF):
        with self.assertRaises(InvalidPaper) as caught:
            lets_groups(shelf, thing, paper)
        self.assertEqual((caught.exception.word, caught.exception.at), (word, at))

    def agrees(self, shelf, thing, paper):
        """The checker does with this paper what the plain one does."""
        wanted = groups_error(shelf, thing, paper)
        wanted = ("InvalidPaper", *wanted) if isinstance(wanted, tuple) else tuple(wanted)
        got = told(lets_groups, shelf, thing, paper)
        self.assertEqual(got, wanted, repr((shelf, thing, paper)))
        return got

    def test_example(self):
        self.assertEqual(lets_groups(SHELF, A, PAPER), (2, 2))
        self.raises("least", (1, 0), (GROUPS[:1], LOCKS))

    def test_shape(self):
        ann = GROUPS[0]
        for paper in (None, [], (), (GROUPS,), [GROUPS, LOCKS], (GROUPS, LOCKS, ()), (list(GROUPS), LOCKS), (None, LOCKS),
                      (GROUPS, None), (GROUPS, list(LOCKS)), ((ann, None), LOCKS), (((("ann",), [0, 2]),), LOCKS),
                      (((["ann"], (0, 2)),), LOCKS), (((("Ann",), (0, 2)),), LOCKS), (((("ann",), (0, True)),), LOCKS),
                      (((("ann",), (0, 2), ()),), LOCKS), (GROUPS, ((("ann",), ((2,),)),)),
                      (GROUPS, ((("ann",), ((True,), ())),)), (GROUPS, ((("ann",), ((2,), (2,))),)),
                      (GROUPS, ((("ann",), [(2,), ()]),)), (GROUPS, (((None,), ((2,), ())),))):
            self.raises("shape", -1, paper)

    def test_names_that_are_no_group(self):
        way = (0, 2)
        for names in (("zoe",), ("world",), ("ann", "zoe"), ("bob", "ann"), ("ann", "ann")):
            self.raises("group", (0, 0), (((names, way),), LOCKS))
            self.raises("group", (1, 1), (GROUPS, (LOCKS[0], (names, ((1,), ())))))

    def test_entries_that_do_not_ascend(self):
        self.raises("group", (0, 1), ((GROUPS[0], GROUPS[0]), LOCKS))
        self.raises("group", (0, 1), ((GROUPS[1], GROUPS[0]), LOCKS))
        self.raises("group", (1, 1), (GROUPS, (LOCKS[1], LOCKS[0])))
        # As tuples: ("ann", "cy") stands ahead of ("bob",).
        self.raises("group", (0, 1), (((("bob", "cy"), (1, 2)), (("ann", "cy"), (0, 2))), LOCKS))

    def test_ways(self):
        for way in ((), (0,), (2,), (9,), (1, 2), (0, 2, 4)):
            self.raises("way", (0, 0), (((("ann",), way), GROUPS[1]), LOCKS))
        self.raises("way", (0, 1), ((GROUPS[0], (("bob", "cy"), (0, 2))), LOCKS))

    def test_closed_sets(self):
        for closed in (((), ()), ((1,), ()), ((2, 3), ()), ((2, 3), (A,)), ((2, 2), ()), ((2, 1), ())):
            self.raises("closed", (1, 0), (GROUPS, ((("ann", "bob"), closed), LOCKS[1])))

    def test_least(self):
        self.raises("least", (0, 1), ((GROUPS[0], (("ann", "bob"), (0, 2))), LOCKS))
        self.raises("least", (1, 0), (GROUPS[:1], LOCKS))
        self.raises("least", (0, 1), (GROUPS, LOCKS[:1]))
        self.raises("least", (0, 0), (GROUPS, ()))
        self.raises("least", (1, 0), ((), LOCKS))

    def test_dual(self):
        self.raises("dual", -1, ((), ()))
        self.raises("dual", -1, ((), ()), thing=9)
        self.raises("dual", -1, ((), ()), shelf=((), ()))
        # Each entry is shown to be least by these two locks, but two more locks are missing.
        names = ("ann", "bob", "cy", "dee")
        shelf = (tuple((name, (k,)) for k, name in enumerate(names)), ((MEMO, (0, 1)), (MEMO, (2, 3))))
        groups, locks = groups_paper(shelf, MEMO)
        self.assertEqual(lets_groups(shelf, MEMO, (groups, locks)), (2, 4))
        self.raises("dual", -1, (groups, (locks[0], locks[3])), thing=MEMO, shelf=shelf)
        self.raises("dual", -1, (groups, locks[1:3]), thing=MEMO, shelf=shelf)
        self.raises("dual", -1, (groups, locks[:3]), thing=MEMO, shelf=shelf)

    def test_nobody_opens_it(self):
        self.assertEqual(lets_groups(SHELF, 9, ((), (((), ((0, 1, 2, 3, 4), (A, ("b", 0)))),))), (0, 1))

    def test_group_of_nobody_never_opens(self):
        self.raises("way", (0, 0), ((((), ()),), ()), thing=0)

    def test_first_of_two_errors(self):
        wrong = (("zoe",), (9,))
        self.raises("shape", -1, ((wrong,), None))
        self.raises("group", (0, 0), ((wrong, wrong), ((("zoe",), ((), ())),)))
        self.raises("way", (0, 0), ((GROUPS[0][:1] + ((9,),), (("ann",), (0, 2))), LOCKS))
        self.raises("way", (0, 1), ((GROUPS[0], (("bob", "cy"), ())), ((("zoe",), ((), ())),)))
        self.raises("closed", (1, 0), (GROUPS[:1], ((("ann", "bob"), ((), ())), LOCKS[1])))
        self.raises("least", (0, 0), ((GROUPS[0], (("ann", "bob"), (0, 2))), ()))

    def test_every_value(self):
        for paper in WRONG + (deep(40), ((),) * 2, (tuple(range(5000)), ()), (((("ann",), (0,) * 4000),), ())):
            self.agrees(SHELF, A, paper)
            self.agrees(SHELF, A, (paper, LOCKS))
            self.agrees(SHELF, A, (GROUPS, paper))

    def test_groups_paper_is_accepted(self):
        for seed in range(150):
            shelf = some_shelf(seed)
            for thing in (MEMO, 0, 2):
                paper = groups_paper(shelf, thing)
                self.assertEqual(lets_groups(shelf, thing, paper), (len(paper[0]), len(paper[1])))

    def test_papers_changed_at_one_place(self):
        for paper in variants(PAPER):
            self.agrees(SHELF, A, paper)
        kinds = set()
        for seed in range(25):
            shelf = some_shelf(seed)
            for thing in (MEMO, 1):
                for paper in variants(groups_paper(shelf, thing)):
                    kinds.add(self.agrees(shelf, thing, paper)[1])
        self.assertLessEqual({"shape", "group", "way", "closed", "least"}, kinds)

    def test_entries_left_out(self):
        kinds = set()
        for seed in range(80):
            shelf = some_shelf(seed)
            groups, locks = groups_paper(shelf, MEMO)
            for some in range(1 << len(groups)):
                for more in range(1 << len(locks)):
                    paper = (tuple(one for k, one in enumerate(groups) if some >> k & 1),
                             tuple(one for k, one in enumerate(locks) if more >> k & 1))
                    kinds.add(self.agrees(shelf, MEMO, paper)[1])
        self.assertLessEqual({"least", "dual"}, kinds)

    def test_arguments_by_name(self):
        self.assertEqual(lets_groups(paper=PAPER, thing=A, shelf=SHELF), (2, 2))
