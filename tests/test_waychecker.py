"""The checkers of ways, closed sets and shortest papers ([15], [16])."""

import unittest

from sealshelf.errors import InvalidPaper
from sealshelf.waychecker import lets_closed, lets_shortest, lets_way
from sealshelf.ways import closed_without, shortest_paper, way_to
from tests.making import WRONG, deep, some_case, told, variants
from tests.naive import BOXES, MEMO, closed_error, shortest_error, way_error
from tests.test_ways import RING, independent

PAPER = ((0, 4, 3), (MEMO, ((3, ((2, ((),)),)), (4, ((2, ((),)),)))))


class Checkers(unittest.TestCase):
    def raises(self, word, at, check, *arguments):
        with self.assertRaises(InvalidPaper) as caught:
            check(*arguments)
        self.assertEqual((caught.exception.word, caught.exception.at), (word, at))
        self.assertIs(type(caught.exception.at), type(at))

    def agrees(self, check, plain, case, paper):
        """The checker does with this paper what the plain one does."""
        wanted = plain(*case, paper)
        if isinstance(wanted, tuple):
            wanted = ("InvalidPaper", *wanted)
        self.assertEqual(told(check, *case, paper), wanted, repr((case, paper)))

    def test_example(self):
        self.assertEqual([lets_way((1,), BOXES, MEMO, (0, 1, 2)), lets_way((1,), BOXES, MEMO, (4, 0, 4, 3))], [3, 4])
        self.raises("locked", 1, lets_way, (1,), BOXES, MEMO, (0, 2))
        self.assertEqual(lets_closed((2,), BOXES, 4, ((2, 3), (MEMO,))), 3)
        self.raises("leaves", 1, lets_closed, (1,), BOXES, 5, ((1, 2), ()))
        self.assertEqual(lets_shortest((1,), BOXES, MEMO, PAPER), 3)
        paper = ((0, 4, 3), (MEMO, ((3, ((2, ((),)),)), (1, ()))))
        self.raises("due", (1,), lets_shortest, (1,), BOXES, MEMO, paper)

    def test_way_errors(self):
        for paper in (None, [0, 1, 2], (True,), (0, -1), (0, "1"), (0, (1,)), "012", 0, (0, None), (0, [])):
            self.raises("shape", -1, lets_way, (1,), BOXES, MEMO, paper)
        self.raises("box", 1, lets_way, (1,), BOXES, MEMO, (0, 6))
        self.raises("box", 0, lets_way, (1,), BOXES, MEMO, (10 ** 59,))
        self.raises("lead", -1, lets_way, (1,), BOXES, MEMO, (0, 1))
        self.raises("lead", -1, lets_way, (1,), BOXES, MEMO, ())

    def test_first_of_two_way_errors(self):
        self.raises("shape", -1, lets_way, (1,), BOXES, MEMO, (9, 2, None))
        self.raises("box", 0, lets_way, (1,), BOXES, MEMO, (9, 2))
        self.raises("locked", 0, lets_way, (1,), BOXES, MEMO, (2, 9))
        self.raises("locked", 1, lets_way, (1,), BOXES, 77, (0, 2))

    def test_way_to_a_thing_among_the_keys(self):
        self.assertEqual(lets_way((1,), BOXES, 1, ()), 0)
        self.assertEqual(lets_way((1,), BOXES, 1, (0, 0, 4)), 3)

    def test_way_of_many_boxes(self):
        boxes = tuple((k + 1, (k,)) for k in range(60))
        self.assertEqual(lets_way((0,), boxes, 60, tuple(range(60))), 60)
        self.assertEqual(lets_way((0,), boxes, 1, (0,) * 4000), 4000)
        self.raises("locked", 30, lets_way, (0,), boxes, 60, tuple(range(30)) + tuple(range(31, 60)))

    def test_box_does_not_open_itself(self):
        self.raises("locked", 0, lets_way, (), ((1, (2,)), (2, (1,))), 1, (0, 1))

    def test_closed_errors(self):
        for paper in (None, ((2, 3),), [(2, 3), (MEMO,)], ((2, 3), [MEMO]), ((3, 2), (MEMO,)), ((2, 2), ()),
                      ((True, 2), ()), ((2, 3), (MEMO, MEMO)), ((2, 3), (3,)), ((MEMO,), ()), ((2, 3), (("memo", True),)),
                      ((2, 3), (MEMO,), ()), ((2,), (("b", 0), ("a", 0)))):
            self.raises("shape", -1, lets_closed, (2,), BOXES, 4, paper)
        self.raises("begin", 0, lets_closed, (2,), BOXES, 4, ((), ()))
        self.raises("begin", 1, lets_closed, (2, 5), BOXES, 4, ((2, 3), (MEMO,)))
        self.raises("leaves", 2, lets_closed, (2,), BOXES, 4, ((2, 3), ()))
        self.raises("thing", -1, lets_closed, (2,), BOXES, 3, ((2, 3), (MEMO,)))
        self.raises("thing", -1, lets_closed, (2,), BOXES, MEMO, ((2, 3), (MEMO,)))

    def test_first_of_two_closed_errors(self):
        self.raises("begin", 0, lets_closed, (1, 2), BOXES, 4, ((4,), ()))
        self.raises("leaves", 0, lets_closed, (1,), BOXES, 4, ((1, 3, 4), ()))
        self.raises("leaves", 2, lets_closed, (2,), BOXES, 3, ((2, 3), ()))

    def test_closed_set_with_more_in_it(self):
        self.assertEqual(lets_closed((), (), MEMO, ((), ())), 0)
        self.assertEqual(lets_closed((2,), BOXES, 4, ((2, 3, 77), (("aa", 5), MEMO))), 5)

    def test_shortest_shape(self):
        for paper in (None, (), ((0, 4, 3),), [(0, 4, 3), ()], ((0, 4, 3), []), ((0, True, 3), ()), ([0, 4, 3], ()),
                      ((0, 4, 3), None), ((0, 4, 3), (), ())):
            self.raises("shape", -1, lets_shortest, (1,), BOXES, MEMO, paper)

    def test_shortest_way_errors_come_before_the_tree(self):
        self.raises("box", 0, lets_shortest, (1,), BOXES, MEMO, ((6,), (None, 5)))
        self.raises("locked", 0, lets_shortest, (1,), BOXES, MEMO, ((3,), ()))
        self.raises("lead", -1, lets_shortest, (1,), BOXES, MEMO, ((0,), ()))

    def test_shortest_nodes(self):
        way = PAPER[0]
        two = (4, ((2, ((),)),))
        self.raises("node", (), lets_shortest, (1,), BOXES, MEMO, (way, ()))
        self.raises("node", (0,), lets_shortest, (1,), BOXES, MEMO, (way, (MEMO, ((), two))))
        self.raises("node", (0, 0, 0), lets_shortest, (1,), BOXES, MEMO,
                    (way, (MEMO, ((3, ((2, ((2, ()),)),)), two))))
        self.raises("branches", (), lets_shortest, (1,), BOXES, MEMO, (way, (MEMO, (two,))))
        self.raises("due", (), lets_shortest, (1,), BOXES, MEMO, (way, (3, (two,))))
        self.raises("due", (0,), lets_shortest, (1,), BOXES, MEMO, (way, (MEMO, ((MEMO, ()), two))))

    def test_due_that_a_chosen_box_has_or_that_is_among_the_keys(self):
        boxes = ((MEMO, (1, 2)), (2, (1,)))
        self.assertEqual(lets_shortest((1,), boxes, MEMO, ((1, 0), (MEMO, ((2, ((),)),)))), 2)
        self.raises("due", (0,), lets_shortest, (1,), boxes, MEMO, ((1, 0), (MEMO, ((1, ()),))))

    def test_none_as_due(self):
        # At the beginning nothing is opened but key 1, which the boxes 0 and 4 leave.
        second = (MEMO, ((3, ((),)), (2, ((),))))
        for last in ((4, ((),)), (None, ((), ()))):
            first = (MEMO, ((3, ((),)), last))
            self.assertEqual(lets_shortest((1,), BOXES, MEMO, ((0, 4, 3), (None, (first, second)))), 3)
        self.raises("branches", (), lets_shortest, (1,), BOXES, MEMO, ((0, 4, 3), (None, (first,))))

    def test_none_where_the_thing_is_open(self):
        boxes = ((MEMO, (1,)), (2, (1,)), (MEMO, (2,)))
        self.raises("due", (0,), lets_shortest, (1,), boxes, MEMO, ((1, 2), (MEMO, ((None, ((),)), ()))))
        self.raises("due", (), lets_shortest, (1,), boxes, 1, ((1,), (None, ((), ()))))

    def test_way_with_a_box_too_many(self):
        for node in ((MEMO, ()), (None, ()), (1, ()), (None, ((), ()))):
            told_of = told(lets_shortest, (1,), BOXES, 2, ((0, 4), (2, (node,))))
            self.assertEqual(told_of, ("InvalidPaper", "due", (0,)))

    def test_every_value(self):
        for case in (((1,), BOXES, MEMO), ((), (), 0), ((0,), RING, MEMO)):
            for paper in WRONG + (deep(40), tuple(range(5000)), ((0,) * 4000, ())):
                self.agrees(lets_way, way_error, case, paper)
                self.agrees(lets_closed, closed_error, case, paper)
                self.agrees(lets_shortest, shortest_error, case, paper)
                self.agrees(lets_shortest, shortest_error, case, (PAPER[0], paper))

    def test_ways_changed_at_one_place(self):
        for seed in range(60):
            case = some_case(seed)
            for paper in variants(way_to(*case)):
                self.agrees(lets_way, way_error, case, paper)

    def test_closed_sets_changed_at_one_place(self):
        for seed in range(60):
            case = some_case(seed)
            for paper in variants(closed_without(*case)):
                self.agrees(lets_closed, closed_error, case, paper)

    def test_shortest_papers_changed_at_one_place(self):
        cases = [some_case(seed, many=9, keys=4) for seed in range(60)]
        for case in cases + [((1,), BOXES, MEMO), ((0,), RING, MEMO), ((0,), independent(3), MEMO)]:
            paper = shortest_paper(*case)
            if paper is not None:
                for changed in variants(paper):
                    self.agrees(lets_shortest, shortest_error, case, changed)

    def test_change_far_down_in_a_large_paper(self):
        boxes = independent(12)
        way, tree = shortest_paper((0,), boxes, MEMO)
        path = self.path_to_a_leaf(tree)
        for cut in range(1, len(path) + 1):
            for wrong, word in ((None, "node"), ((True, ()), "due" if cut < len(path) else "node")):
                changed = self.changed(tree, path[:cut], wrong)
                self.raises(word, path[:cut], lets_shortest, (0,), boxes, MEMO, (way, changed))

    def test_bool_for_a_key_in_a_large_paper(self):
        boxes = independent(12)
        way, tree = shortest_paper((0,), boxes, MEMO)
        self.assertEqual(tree[1][0][0], 1)
        changed = self.changed(tree, (0,), (True, tree[1][0][1]))
        self.raises("due", (0,), lets_shortest, (0,), boxes, MEMO, (way, changed))

    def test_bool_for_a_key_below_equal_nodes(self):
        # Boxes 0 and 1 can be chosen in either order, so there are two paths to the same boxes.
        boxes = ((2, (9,)), (3, (9,)), (4, (2, 3)), (7, (2, 3)), (1, (4,)))
        way = (0, 1, 2, 4)
        right = (None, ((1, ((),)), (None, ((),))))
        wrong = (None, ((True, ((),)), (None, ((),))))
        self.assertEqual(right, wrong)
        for second, end in ((right, None), (wrong, (1, 0, 0))):
            paper = (way, (None, ((None, (right,)), (None, (second,)))))
            told_of = told(lets_shortest, (9,), boxes, 1, paper)
            self.assertEqual(told_of, 4 if end is None else ("InvalidPaper", "due", end))

    def test_boxes_with_a_text_that_is_open_do_not_leave(self):
        boxes = independent(4) + ((("a", 0), (0,)), (("a", 0), (0,)), (("a", 0), (3,)))
        paper = shortest_paper((0,), boxes, MEMO)
        self.assertEqual(shortest_error((0,), boxes, MEMO, paper), 6)
        self.assertEqual(lets_shortest((0,), boxes, MEMO, paper), 6)

    def path_to_a_leaf(self, tree):
        """The path that takes the last branch at each node."""
        path = ()
        while tree != ():
            path += (len(tree[1]) - 1,)
            tree = tree[1][-1]
        return path

    def changed(self, node, path, value):
        """The node with another value at the end of the path."""
        if not path:
            return value
        k = path[0]
        return (node[0], node[1][:k] + (self.changed(node[1][k], path[1:], value),) + node[1][k + 1:])

    def test_arguments_by_name(self):
        self.assertEqual(lets_way(paper=(), thing=1, boxes=(), keys=(1,)), 0)
        self.assertEqual(lets_closed(paper=((), ()), thing=1, boxes=(), keys=()), 0)
        self.assertEqual(lets_shortest(paper=((), ()), thing=1, boxes=(), keys=(1,)), 0)
