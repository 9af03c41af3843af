"""Ways, shortest ways and papers, closed sets ([13], [14], [17])."""

import unittest

from sealshelf.waychecker import lets_closed, lets_shortest, lets_way
from sealshelf.ways import closed_without, shortest_paper, shortest_way, way_to
from tests.making import some_case
from tests.naive import BOXES, MEMO, closed_error, closure, fewest, shortest_error, way_error

RING = ((MEMO, (1,)), (1, (2,)), (2, (1,)), (1, (3, 4)), (3, (0,)), (4, (0,)))


def independent(many):
    """A ring behind which so many boxes can be opened in any order."""
    sources = tuple(range(3, 3 + many))
    return ((MEMO, (1,)), (1, (2,)), (2, (1,)), (1, sources)) + tuple((key, (0,)) for key in sources)


class Ways(unittest.TestCase):
    def test_example(self):
        self.assertEqual([shortest_way((2, 4), BOXES, MEMO), way_to((1,), BOXES, 1), way_to((4,), BOXES, 2),
                          len(shortest_way((1,), BOXES, MEMO))], [(3,), (), None, 3])
        self.assertEqual([closed_without((1,), BOXES, MEMO), shortest_paper((4,), BOXES, 2),
                          shortest_paper((3,), BOXES, 3)], [None, None, ((), ())])

    def test_thing_among_the_keys(self):
        for search in (way_to, shortest_way):
            self.assertEqual(search((5, 7), BOXES, 7), ())

    def test_no_way(self):
        for search in (way_to, shortest_way, shortest_paper):
            self.assertIsNone(search((), BOXES, MEMO))
            self.assertIsNone(search((9,), (), MEMO))
            self.assertIsNone(search((9,), RING, MEMO))

    def test_key_needed_twice_is_opened_once(self):
        boxes = ((1, (0,)), (2, (1,)), (3, (1,)), (MEMO, (2, 3)), (2, (7,)), (7, (0,)), (3, (8,)), (8, (0,)))
        self.assertEqual(len(shortest_way((0,), boxes, MEMO)), 4)

    def test_not_the_least_number_of_each_key(self):
        # Apart, keys 1 and 2 have ways of two boxes, together five; but three for both with key 9.
        boxes = ((1, (5,)), (5, (0,)), (2, (6,)), (6, (0,)), (1, (9,)), (2, (9,)), (9, (0,)), (MEMO, (1, 2)))
        self.assertEqual(len(shortest_way((0,), boxes, MEMO)), 4)

    def test_ways_of_cases(self):
        for seed in range(400):
            keys, boxes, thing = some_case(seed)
            way = way_to(keys, boxes, thing)
            if thing in closure(keys, boxes):
                self.assertEqual(way_error(keys, boxes, thing, way), len(way))
                self.assertEqual(lets_way(keys, boxes, thing, way), len(way))
                self.assertIsNone(closed_without(keys, boxes, thing))
            else:
                self.assertIsNone(way)
                closed = closed_without(keys, boxes, thing)
                self.assertIsInstance(closed_error(keys, boxes, thing, closed), int)
                self.assertIsInstance(lets_closed(keys, boxes, thing, closed), int)

    def test_shortest_of_cases(self):
        for seed in range(700):
            keys, boxes, thing = some_case(seed, many=9, keys=5)
            way = shortest_way(keys, boxes, thing)
            many = fewest(keys, boxes, thing)
            if many is None:
                self.assertIsNone(way)
                self.assertIsNone(shortest_paper(keys, boxes, thing))
                continue
            self.assertEqual(len(way), many)
            self.assertEqual(way_error(keys, boxes, thing, way), many)
            self.assertEqual(len(set(way)), many)
            paper = shortest_paper(keys, boxes, thing)
            self.assertEqual(shortest_error(keys, boxes, thing, paper), many)
            self.assertEqual(lets_shortest(keys, boxes, thing, paper), many)

    def test_chosen_boxes_in_a_ring(self):
        paper = shortest_paper((0,), RING, MEMO)
        self.assertEqual(lets_shortest((0,), RING, MEMO, paper), 4)
        self.assertEqual(shortest_error((0,), RING, MEMO, paper), 4)

    def test_boxes_in_rings_that_many_orders_open(self):
        boxes = independent(12)
        self.assertEqual(len(shortest_way((0,), boxes, MEMO)), 14)
        self.assertEqual(lets_shortest((0,), boxes, MEMO, shortest_paper((0,), boxes, MEMO)), 14)

    def test_sixteen_boxes_of_each_sort(self):
        equal = ((MEMO, (1,)),) * 8 + ((1, (0,)),) * 8
        closed = ((MEMO, (1,)), (1, (0,))) + tuple((1, (k,)) for k in range(2, 16))
        thirds = tuple((k, (k + 1,)) for k in (1, 2, 3, 4, 5) for _ in range(3)) + ((MEMO, (1,)),)
        rings = tuple((k, (n,)) for k in (1, 2, 3, 4) for n in (1, 2, 3, 4) if n != k) + (
            (MEMO, (1, 2, 3, 4)), (4, (0,)), (5, (0,)), (6, (0,)))
        for keys, boxes, many in (((0,), equal, 2), ((0,), closed, 2), ((6,), thirds, 6), ((0,), rings, 5)):
            paper = shortest_paper(keys, boxes, MEMO)
            self.assertEqual(len(shortest_way(keys, boxes, MEMO)), many)
            self.assertEqual(lets_shortest(keys, boxes, MEMO, paper), many)

    def test_nobody_can_open_among_many(self):
        rings = tuple((k, (n,)) for k in range(1, 6) for n in range(1, 6) if n != k)[:15] + ((MEMO, (1, 2)),)
        self.assertIsNone(shortest_way((0,), rings, MEMO))
        self.assertIsNone(shortest_paper((0,), rings, MEMO))

    def test_somewhat_beyond_the_limit(self):
        boxes = independent(12) + ((MEMO, (1,)), (2, (1,)), (30, (31,)))
        self.assertEqual(len(shortest_way((0,), boxes, MEMO)), 14)
        self.assertEqual(lets_shortest((0,), boxes, MEMO, shortest_paper((0,), boxes, MEMO)), 14)

    def test_way_of_forty_boxes(self):
        boxes = tuple((k + 1, (k,)) for k in range(40))
        self.assertEqual(way_to((0,), boxes, 40), tuple(range(40)))

    def test_results_are_tuples(self):
        self.assertIs(type(way_to((1,), BOXES, MEMO)), tuple)
        self.assertIs(type(shortest_way((1,), BOXES, MEMO)), tuple)
        self.assertEqual([type(part) for part in closed_without((2,), BOXES, 4)], [tuple, tuple])

    def test_arguments_by_name(self):
        for search in (way_to, shortest_way):
            self.assertEqual(search(thing=1, boxes=(), keys=(1,)), ())
        self.assertEqual(shortest_paper(thing=1, boxes=(), keys=(1,)), ((), ()))
        self.assertIsNone(closed_without(thing=1, boxes=(), keys=(1,)))
