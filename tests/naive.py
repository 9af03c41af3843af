"""The document's definitions, written down once more and as plainly as possible.

Nothing here imports the program: the tests compare it with these functions.
"""

from itertools import combinations

MEMO = ("memo", 0)
BOXES = ((2, (1,)), (3, (2,)), (MEMO, (3,)), (MEMO, (2, 4)), (4, (1,)), (1, (5,)))
HANDS = (("ann", (0,)), ("bob", (1,)), ("cy", (2,)))
SHELF_BOXES = ((3, (0,)), (3, (1, 2)), (("a", 0), (3,)), (4, (3,)), (("b", 0), (2, 4)))
SHELF = (HANDS, SHELF_BOXES)


def parts_of(row):
    """All tuples of elements of the row, the shorter ones first."""
    return [part for many in range(len(row) + 1) for part in combinations(row, many)]


def closure(keys, boxes):
    """The set of all things that are opened."""
    things = set(keys)
    while True:
        more = {thing for thing, needed in boxes if set(needed) <= things} - things
        if not more:
            return things
        things |= more


def pair(things):
    """Things as a pair (keys, texts) of ascending tuples."""
    keys = sorted(thing for thing in things if not isinstance(thing, tuple))
    texts = sorted(thing for thing in things if isinstance(thing, tuple))
    return (tuple(keys), tuple(texts))


def fewest(keys, boxes, thing):
    """The least number of boxes that alone open the thing, or None."""
    for part in parts_of(range(len(boxes))):
        if thing in closure(keys, [boxes[b] for b in part]):
            return len(part)
    return None


def least(candidates):
    """Those of some tuples that contain no other one."""
    sets = [set(one) for one in candidates]
    return tuple(sorted(one for one in candidates if not any(other < set(one) for other in sets)))


def opening_groups(shelf, thing):
    """All groups that open the thing."""
    hands = dict(shelf[0])
    return [group for group in parts_of(tuple(hands))
            if thing in closure([key for holder in group for key in hands[holder]], shelf[1])]


def locking_groups(shelf, thing):
    """All groups without whom the others do not open the thing."""
    hands = dict(shelf[0])
    can = set(opening_groups(shelf, thing))
    return [lock for lock in parts_of(tuple(hands))
            if tuple(holder for holder in hands if holder not in lock) not in can]


def leaks(shelf, thing, known):
    """All leaks for the thing and the known keys, keys that are known left out."""
    hands, boxes = shelf
    keys = {key for _, row in hands for key in row} | {key for _, row in boxes for key in row}
    keys |= {one for one, _ in boxes if isinstance(one, int)}
    return [leak for leak in parts_of(sorted(keys - set(known))) if thing in closure(leak + tuple(known), boxes)]


def is_number(value):
    return type(value) is int and value >= 0


def is_name(value):
    return type(value) is str and 1 <= len(value) <= 8 and all(c in "abcdefghijklmnopqrstuvwxyz" for c in value)


def is_text(value):
    return type(value) is tuple and len(value) == 2 and is_name(value[0]) and is_number(value[1])


def is_thing(value):
    return is_number(value) or is_text(value)


def is_row(value, kind):
    """Whether it is a tuple of values of a kind."""
    return type(value) is tuple and all(kind(one) for one in value)


def goes_up(row):
    return list(row) == sorted(set(row))


def way_error(keys, boxes, thing, paper):
    """The first error of a way as (word, at), or the number of its boxes."""
    if not is_row(paper, is_number):
        return ("shape", -1)
    there = set(keys)
    for j, b in enumerate(paper):
        if b not in range(len(boxes)):
            return ("box", j)
        if not set(boxes[b][1]) <= there:
            return ("locked", j)
        there.add(boxes[b][0])
    return len(paper) if thing in there else ("lead", -1)


def closed_error(keys, boxes, thing, paper):
    """The first error of a closed set as (word, at), or the number of its things."""
    if type(paper) is not tuple or len(paper) != 2:
        return ("shape", -1)
    if not is_row(paper[0], is_number) or not is_row(paper[1], is_text):
        return ("shape", -1)
    if not goes_up(paper[0]) or not goes_up(paper[1]):
        return ("shape", -1)
    there = set(paper[0]) | set(paper[1])
    for k, key in enumerate(keys):
        if key not in there:
            return ("begin", k)
    for b, (inside, needed) in enumerate(boxes):
        if set(needed) <= there and inside not in there:
            return ("leaves", b)
    return ("thing", -1) if thing in there else len(there)


def shortest_error(keys, boxes, thing, paper):
    """The first error of a shortest paper as (word, at), or the number of boxes of its way."""
    if type(paper) is not tuple or len(paper) != 2:
        return ("shape", -1)
    if not is_row(paper[0], is_number) or type(paper[1]) is not tuple:
        return ("shape", -1)
    told = way_error(keys, boxes, thing, paper[0])
    if isinstance(told, tuple):
        return told
    return node_error(keys, boxes, thing, len(paper[0]), paper[1], (), ()) or len(paper[0])


def node_error(keys, boxes, thing, many, node, chosen, path):
    """The first error of a node and of those below it, or None."""
    if len(chosen) == many:
        return None if type(node) is tuple and node == () else ("node", path)
    if type(node) is not tuple or len(node) != 2 or type(node[1]) is not tuple:
        return ("node", path)
    taken = [boxes[b] for b in chosen]
    due, branches = node
    if due is None:
        there = closure(keys, taken)
        if thing in there:
            return ("due", path)
        numbers = [b for b, box in enumerate(boxes) if set(box[1]) <= there and box[0] not in there]
    else:
        wanted = {thing} | {key for box in taken for key in box[1]}
        if not is_thing(due) or due not in wanted - set(keys) - {box[0] for box in taken}:
            return ("due", path)
        numbers = [b for b, box in enumerate(boxes) if box[0] == due]
    if len(branches) != len(numbers):
        return ("branches", path)
    for k, b in enumerate(numbers):
        told = node_error(keys, boxes, thing, many, branches[k], chosen + (b,), path + (k,))
        if told:
            return told
    return None


def shelf_error(value):
    """The first error of a shelf as (word, at), or its two numbers."""
    def hand(one):
        return type(one) is tuple and len(one) == 2 and is_name(one[0]) and is_row(one[1], is_number)

    def box(one):
        return type(one) is tuple and len(one) == 2 and is_thing(one[0]) and is_row(one[1], is_number)

    if type(value) is not tuple or len(value) != 2 or not is_row(value[0], hand) or not is_row(value[1], box):
        return ("shape", -1)
    for k, (name, keys) in enumerate(value[0]):
        if name == "world" or k and not value[0][k - 1][0] < name:
            return ("holder", k)
        if not goes_up(keys):
            return ("keys", k)
    for b, (thing, keys) in enumerate(value[1]):
        if not keys:
            return ("empty", b)
        if not goes_up(keys):
            return ("order", b)
        if thing in keys:
            return ("own", b)
    return (len(value[0]), len(value[1]))
