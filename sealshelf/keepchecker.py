"""The checker of keep papers ([33])."""

from sealshelf.errors import InvalidPaper
from sealshelf.groupchecker import has_closed_shape
from sealshelf.keeping import aims_of
from sealshelf.kinds import is_number, is_tuple_of
from sealshelf.openings import openable
from sealshelf.waychecker import is_closed, is_way


def lets_keep(shelf, demands, paper):
    """How many boxes a fewest keep has, if the paper is a keep paper for the demands."""
    aims = aims_of(shelf, demands)
    if not has_keep_shape(paper):
        raise InvalidPaper("shape", -1)
    kept, ways, tree = paper
    check_kept(shelf[1], kept)
    check_ways(aims, shelf[1], kept, ways)
    KeepCheck(aims, shelf[1], len(kept)).look(tree, (), ())
    return len(kept)


def has_keep_shape(thing):
    """Whether it is a triple of numbers, of tuples of numbers, and of a tree."""
    if not isinstance(thing, tuple) or len(thing) != 3:
        return False
    return is_tuple_of(is_number, thing[0]) and is_tuple_of(is_numbers, thing[1]) and is_tree(thing[2])


def is_numbers(thing):
    """Whether it is a tuple of numbers."""
    return is_tuple_of(is_number, thing)


def is_tree(thing):
    """Whether it is a tree by its shape."""
    if thing is None:
        return True
    if not isinstance(thing, tuple) or len(thing) != 3:
        return False
    return is_number(thing[0]) and has_closed_shape(thing[1]) and is_tuple_of(is_tree, thing[2])


def check_kept(boxes, kept):
    """Raise an error for the first entry that is no index of a box, or does not ascend."""
    for k, b in enumerate(kept):
        if b >= len(boxes) or k > 0 and b <= kept[k - 1]:
            raise InvalidPaper("kept", k)


def check_ways(aims, boxes, kept, ways):
    """Raise an error for the first aim whose way does not lead to its thing by kept boxes."""
    if len(ways) != len(aims):
        raise InvalidPaper("ways", -1)
    for d, (keys, thing) in enumerate(aims):
        if not all([b in kept for b in ways[d]]) or not is_way(keys, boxes, thing, ways[d]):
            raise InvalidPaper("way", d)


class KeepCheck:
    """The check of the tree of a keep paper that keeps so many boxes."""

    def __init__(self, aims, boxes, many):
        self.aims = aims
        self.offered = boxes
        self.many = many

    def look(self, tree, chosen, path):
        """Raise the first error of the place at the end of the path and of those below."""
        if (tree is None) != (len(chosen) == self.many):
            raise InvalidPaper("end", path)
        if tree is None:
            return
        numbers = self.branches_due(tree, chosen, path)
        for k, b in enumerate(numbers):
            self.look(tree[2][k], chosen + (b,), path + (k,))

    def branches_due(self, tree, chosen, path):
        """The indexes of the boxes of the branches that the tree has to have."""
        d, closed, branches = tree
        if d >= len(self.aims):
            raise InvalidPaper("demand", path)
        keys, thing = self.aims[d]
        if not is_closed(keys, [self.offered[b] for b in chosen], thing, closed):
            raise InvalidPaper("closed", path)
        there = closed[0] + closed[1]
        numbers = [b for b in openable(closed[0], self.offered) if self.offered[b][0] not in there]
        if len(numbers) != len(branches):
            raise InvalidPaper("branches", path)
        return numbers
