"""Checkers of ways, of closed sets and of shortest papers ([15], [16])."""

from sealshelf.choosing import Choices
from sealshelf.errors import InvalidPaper
from sealshelf.kinds import is_keys, is_number, is_pair, is_texts, is_thing, is_tuple_of
from sealshelf.openings import openable


def lets_way(keys, boxes, thing, paper):
    """How many boxes the paper has, if it is a way from keys that leads to the thing."""
    if not is_tuple_of(is_number, paper):
        raise InvalidPaper("shape", -1)
    check_way(keys, boxes, thing, paper)
    return len(paper)


def check_way(keys, boxes, thing, way):
    """Raise the first error of a tuple of numbers that is no way to the thing."""
    there = {key: True for key in keys}
    for j, b in enumerate(way):
        if b >= len(boxes):
            raise InvalidPaper("box", j)
        if not all([key in there for key in boxes[b][1]]):
            raise InvalidPaper("locked", j)
        there[boxes[b][0]] = True
    if thing not in there:
        raise InvalidPaper("lead", -1)


def is_way(keys, boxes, thing, paper):
    """Whether the paper is a way from keys that leads to the thing."""
    try:
        lets_way(keys, boxes, thing, paper)
    except InvalidPaper:
        return False
    return True


def lets_closed(keys, boxes, thing, paper):
    """How many things are in the paper, if it is a closed set for keys and boxes without the thing."""
    if not is_pair(paper) or not is_keys(paper[0]) or not is_texts(paper[1]):
        raise InvalidPaper("shape", -1)
    there = {part: True for part in paper[0] + paper[1]}
    for k, key in enumerate(keys):
        if key not in there:
            raise InvalidPaper("begin", k)
    for b in openable(paper[0], boxes):
        if boxes[b][0] not in there:
            raise InvalidPaper("leaves", b)
    if thing in there:
        raise InvalidPaper("thing", -1)
    return len(there)


def is_closed(keys, boxes, thing, paper):
    """Whether the paper is a closed set for keys and boxes without the thing."""
    try:
        lets_closed(keys, boxes, thing, paper)
    except InvalidPaper:
        return False
    return True


def lets_shortest(keys, boxes, thing, paper):
    """How many boxes the way of the paper has, if it is a shortest paper for the thing."""
    if not is_pair(paper) or not is_tuple_of(is_number, paper[0]) or not isinstance(paper[1], tuple):
        raise InvalidPaper("shape", -1)
    way, tree = paper
    check_way(keys, boxes, thing, way)
    TreeCheck(Choices(keys, boxes, thing), len(way)).look(tree, 0, ())
    return len(way)


class TreeCheck:
    """The check of the tree of a shortest paper whose way has so many boxes."""

    def __init__(self, choices, many):
        self.choices = choices
        self.many = many
        # For masks the accepted nodes in and below which each due is None. They
        # are looked at once, as there can be many paths to one mask. Only such
        # nodes: where things are due, == would take True for a key 1.
        self.accepted = {}

    def look(self, node, mask, path):
        """Raise the first error of this node and of those below; whether each due there is None."""
        if len(path) == self.many:
            if node != ():
                raise InvalidPaper("node", path)
            return True
        if node in self.accepted.get(mask, []):
            return True
        numbers = self.branches_due(node, mask, path)
        alike = node[0] is None
        for k, b in enumerate(numbers):
            below = self.look(node[1][k], mask | 1 << b, path + (k,))
            alike = alike and below
        if alike:
            self.accepted.setdefault(mask, []).append(node)
        return alike

    def branches_due(self, node, mask, path):
        """The indexes of the boxes of the branches that the node has to have."""
        if not is_pair(node) or not isinstance(node[1], tuple):
            raise InvalidPaper("node", path)
        if node[0] is None:
            if self.choices.reaches(mask):
                raise InvalidPaper("due", path)
            numbers = self.choices.leaving(mask)
        else:
            if not is_thing(node[0]) or node[0] not in self.choices.dues(mask):
                raise InvalidPaper("due", path)
            numbers = self.choices.boxes_with(node[0])
        if len(numbers) != len(node[1]):
            raise InvalidPaper("branches", path)
        return numbers
