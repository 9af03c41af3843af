"""Keep papers and their checker ([32], [33])."""

import unittest

from sealshelf.errors import InvalidPaper, UnknownHolder
from sealshelf.keepchecker import lets_keep
from sealshelf.keeping import fewest_kept
from sealshelf.keeppapers import keep_paper
from tests.making import WRONG, deep, told, variants
from tests.naive import MEMO, SHELF
from tests.naivekeeps import THREE, TWO, keep_error, keeps
from tests.test_keeping import some_cases

A = ("a", 0)
LAST = (0, ((0, 2), ()), (None,))
TREE = (0, ((0, 2, 3, 4), (A,)), ((0, ((0, 2, 3), (A,)), (LAST,)),))
KEPT = (0, 3, 4)
PAPER = (KEPT, (KEPT,), TREE)


class KeepChecker(unittest.TestCase):
    def raises(self, word, at, paper, demands=TWO, shelf=SHELF):
        with self.assertRaises(InvalidPaper) as caught:
            lets_keep(shelf, demands, paper)
        self.assertEqual((caught.exception.word, caught.exception.at), (word, at))
        self.assertIs(type(caught.exception.at), type(at))

    def agrees(self, shelf, demands, paper):
        """The checker does with this paper what the plain one does."""
        wanted = keep_error(shelf, demands, paper)
        got = told(lets_keep, shelf, demands, paper)
        self.assertEqual(got, ("InvalidPaper", *wanted) if isinstance(wanted, tuple) else wanted,
                         repr((shelf, demands, paper)))
        return got

    def test_example(self):
        self.assertEqual(lets_keep(SHELF, TWO, PAPER), 3)
        self.raises("end", (0,), (KEPT, (KEPT,), (0, ((0, 2), ()), (None,))))

    def test_shape(self):
        for paper in (None, (), (KEPT, (KEPT,)), [KEPT, (KEPT,), TREE], (KEPT, (KEPT,), TREE, ()), (list(KEPT), (), None),
                      ((True, 3, 4), (KEPT,), TREE), (KEPT, KEPT, TREE), (KEPT, [KEPT], TREE), (KEPT, ([0, 3, 4],), TREE),
                      (KEPT, ((0, None),), TREE)):
            self.raises("shape", -1, paper)
        for tree in ((), [], 0, False, (0, ((0, 2), ())), (True, ((0, 2), ()), ()), (-1, ((0, 2), ()), ()),
                     (0, ((0, 2),), ()), (0, [(0, 2), ()], ()), (0, ((True,), ()), ()), (0, ((0,), (0,)), ()),
                     (0, ((0, 2), ()), None), (0, ((0, 2), ()), [None]), (0, ((0, 2), ()), (None, 0)),
                     (0, ((0, 2), ()), ((0, ((0, 2), ()), ((),)),)), (None, ((0, 2), ()), ())):
            self.raises("shape", -1, (KEPT, (KEPT,), tree))

    def test_kept(self):
        self.raises("kept", 2, ((0, 3, 5), (KEPT,), TREE))
        self.raises("kept", 1, ((3, 0, 4), (KEPT,), TREE))
        self.raises("kept", 1, ((0, 0, 9), (KEPT,), TREE))
        self.raises("kept", 0, ((10 ** 59,), (KEPT,), TREE))

    def test_ways(self):
        for ways in ((), (KEPT, KEPT)):
            self.raises("ways", -1, (KEPT, ways, TREE))
        for way in ((), (0, 3), (3, 0, 4), (0, 3, 4, 9), (0, 3, 4, 1), (0, 3, 4, 2)):
            self.raises("way", 0, (KEPT, (way,), TREE))
        self.raises("way", 1, (KEPT, (KEPT, ()), TREE), demands=TWO * 2)
        self.assertEqual(lets_keep(SHELF, TWO, (KEPT, ((0, 0, 3, 3, 4),), TREE)), 3)

    def test_ends(self):
        self.raises("end", (), (KEPT, (KEPT,), None))
        self.raises("end", (0, 0, 0), (KEPT, (KEPT,), (0, TREE[1], ((0, TREE[2][0][1], ((0, LAST[1], (LAST,)),)),))))
        self.raises("end", (), ((), (), LAST), demands=())
        self.assertEqual(lets_keep(SHELF, (), ((), (), None)), 0)

    def test_demand_of_a_place(self):
        self.raises("demand", (), (KEPT, (KEPT,), (1,) + TREE[1:]))
        self.raises("demand", (0, 0), (KEPT, (KEPT,), (0, TREE[1], ((0, TREE[2][0][1], ((7,) + LAST[1:],)),))))
        self.assertEqual(lets_keep(SHELF, TWO * 2, (KEPT, (KEPT, KEPT), (1,) + TREE[1:])), 3)

    def test_closed_sets(self):
        wrong = (((), ()), ((0,), ()), ((2, 0, 3, 4), (A,)), ((0, 0, 2), ()), ((0, 2, 3, 4), (A, A)),
                 ((0, 2, 3, 4), (A, ("b", 0))), ((0, 2), (("b", 0),)))
        for closed in wrong:
            self.raises("closed", (), (KEPT, (KEPT,), (0, closed, TREE[2])))
        # With box 4 chosen this is not closed: box 4 leads from it to the thing.
        self.raises("closed", (0,), (KEPT, (KEPT,), (0, TREE[1], (TREE,))))

    def test_closed_set_with_more_in_it(self):
        tree = (0, ((0, 2, 3, 4, 77), (A, ("zoe", 5))), TREE[2])
        self.assertEqual(lets_keep(SHELF, TWO, (KEPT, (KEPT,), tree)), 3)

    def test_branches(self):
        self.raises("branches", (), (KEPT, (KEPT,), (0, TREE[1], ())))
        self.raises("branches", (), (KEPT, (KEPT,), (0, TREE[1], TREE[2] * 2)))
        self.raises("branches", (0, 0), (KEPT, (KEPT,), (0, TREE[1], ((0, TREE[2][0][1], ((0, LAST[1], ()),)),))))
        # Nothing is chosen and box 0 leaves (0, 2): another branch is needed for none of the others.
        self.raises("branches", (), (KEPT, (KEPT,), (0, ((0, 2), ()), (LAST, LAST))))

    def test_more_kept_than_needed(self):
        kept = (0, 1, 3, 4)
        for tree in (TREE, (0, TREE[1], (TREE,)), None):
            self.assertEqual(told(lets_keep, SHELF, TWO, (kept, (KEPT,), tree))[0], "InvalidPaper")

    def test_first_of_two_errors(self):
        self.raises("shape", -1, ((9,), (), 0))
        self.raises("kept", 0, ((9,), (), None))
        self.raises("ways", -1, (KEPT, (), None))
        self.raises("way", 0, (KEPT, ((),), None))
        self.raises("demand", (), (KEPT, (KEPT,), (5, ((), ()), ())))
        self.raises("closed", (), (KEPT, (KEPT,), (0, ((), ()), ())))
        two = (0, ((0, 1, 2, 4), ()), (None, None))
        shelf_two = ((("ann", (0,)),), ((1, (0,)), (1, (0,)), (2, (1,))))
        demands = ((("ann",), 2),)
        good = keep_paper(shelf_two, demands)
        self.assertEqual(lets_keep(shelf_two, demands, good), 2)
        # The place (0,) comes before the place (1,), with all that is below it.
        end = (0, ((0, 1), ()), (None,))
        tree = (0, ((0,), ()), (end, end))
        self.assertEqual(lets_keep(shelf_two, demands, (good[0], good[1], tree)), 2)
        self.raises("end", (0, 0), (good[0], good[1], (0, ((0,), ()), ((0, ((0, 1), ()), (two,)), None))), demands, shelf_two)
        self.raises("end", (0,), (good[0], good[1], (0, ((0,), ()), (None, (9,) + end[1:]))), demands, shelf_two)
        self.raises("demand", (1,), (good[0], good[1], (0, ((0,), ()), (end, (9,) + end[1:]))), demands, shelf_two)

    def test_no_locked(self):
        demands = ((("bob",), 3),)
        self.raises("way", 0, ((0,), ((0,),), None), demands=demands)
        self.raises("shape", -1, None, demands=demands)
        self.raises("ways", -1, ((), (), None), demands=demands)

    def test_unknown_holder(self):
        for value in WRONG + (deep(40), [["ann"]], "dee", "world"):
            for paper in (PAPER, None):
                with self.assertRaises(UnknownHolder) as caught:
                    lets_keep(SHELF, TWO + ((("ann", value), 0), (("zoe",), 0)), paper)
                self.assertEqual(caught.exception.holder, value)

    def test_every_value(self):
        for paper in WRONG + (deep(40), (tuple(range(5000)), (), None), ((), ((0,) * 4000,), None)):
            self.agrees(SHELF, TWO, paper)
            self.agrees(SHELF, TWO, (KEPT, (KEPT,), paper))
            self.agrees(SHELF, TWO, (KEPT, paper, TREE))
            self.agrees(SHELF, (), ((), (), paper))
        tree = None
        for _ in range(18):
            tree = (0, ((), ()), (tree,))
        self.agrees(SHELF, TWO, (KEPT, (KEPT,), tree))

    def test_keep_paper_is_accepted(self):
        for shelf, demands in some_cases(400, boxes=8):
            paper = keep_paper(shelf, demands)
            self.assertEqual(keep_error(shelf, demands, paper), len(keeps(shelf, demands)[0]))
            self.assertEqual(lets_keep(shelf, demands, paper), len(fewest_kept(shelf, demands)))

    def test_papers_changed_at_one_place(self):
        words = set()
        for paper in variants(PAPER):
            self.agrees(SHELF, TWO, paper)
        for shelf, demands in list(some_cases(60, boxes=5)) + [(SHELF, THREE)]:
            for paper in variants(keep_paper(shelf, demands)):
                got = self.agrees(shelf, demands, paper)
                words.add(got[1] if isinstance(got, tuple) else "right")
        self.assertEqual(words, {"shape", "kept", "ways", "way", "end", "demand", "closed", "branches", "right"})

    def test_large_trees_come_to_an_end(self):
        # Two boxes for each of six demands, and one of four for each of three: as wide as trees get.
        names = ("ann", "bob", "cy", "dee", "eve")
        hands = tuple((name, (k,)) for k, name in enumerate(names))
        boxes = tuple((20 + k // 2, (k % 5,)) for k in range(12))
        demands = tuple((names, 20 + k) for k in range(6))
        self.assertEqual(lets_keep((hands, boxes), demands, keep_paper((hands, boxes), demands)), 6)
        boxes = tuple((20 + k // 3, (k % 5,)) for k in range(12))
        self.assertEqual(lets_keep((hands, boxes), demands[:4], keep_paper((hands, boxes), demands[:4])), 4)
        ring = tuple((k % 12, ((k + 11) % 12,)) for k in range(12))
        shelf = (hands, ring)
        demands = ((("ann",), 11), (("bob",), 0), (("cy",), 1), (("dee",), 2))
        self.assertEqual(lets_keep(shelf, demands, keep_paper(shelf, demands)), 12)
        boxes = tuple((MEMO if k == 0 else k, tuple(range(1, 12)) if k == 0 else (0,)) for k in range(12))
        shelf = (hands[:1], boxes)
        self.assertEqual(lets_keep(shelf, ((("ann",), MEMO),), keep_paper(shelf, ((("ann",), MEMO),))), 12)

    def test_arguments_by_name(self):
        self.assertEqual(lets_keep(paper=PAPER, demands=TWO, shelf=SHELF), 3)
        self.assertEqual(keep_paper(demands=(), shelf=SHELF), ((), (), None))
