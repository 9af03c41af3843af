"""The checkers of timed ways and of tables ([41], [42])."""

from sealshelf.errors import InvalidPaper
from sealshelf.kinds import is_keys, is_number, is_pair, is_texts, is_tuple_of
from sealshelf.lyings import boxes_put, check_members, check_moment, hand_at, lying, numbers_there


def lets_timed(history, group, moment, thing, word, paper):
    """How many steps the paper has, if it is a timed way of the group to the thing."""
    check_members(history, group)
    check_moment(history, moment)
    if not is_tuple_of(is_timed_step if word == "remembered" else is_number, paper):
        raise InvalidPaper("shape", -1)
    # A step without a moment of its own is one at the given moment.
    steps = paper if word == "remembered" else [(moment, b) for b in paper]
    boxes = boxes_put(history)
    there = {}
    before = 0
    for k, (t, b) in enumerate(steps):
        if t > moment or t < before:
            raise InvalidPaper("moment", k)
        if b not in numbers_there(history, t, word):
            raise InvalidPaper("lies", k)
        hand = hand_at(history, group, t)
        if not all([key in there or key in hand for key in boxes[b][1]]):
            raise InvalidPaper("keys", k)
        there[boxes[b][0]] = True
        before = t
    if thing not in there and thing not in hand_at(history, group, moment):
        raise InvalidPaper("last", -1)
    return len(paper)


def is_timed_step(thing):
    """Whether it is a pair of numbers."""
    return is_pair(thing) and is_number(thing[0]) and is_number(thing[1])


def lets_table(history, group, moment, thing, paper):
    """The numbers of keys and of texts in the last row, if the paper is a table without the thing there."""
    check_members(history, group)
    check_moment(history, moment)
    if not is_tuple_of(is_row, paper):
        raise InvalidPaper("shape", -1)
    if len(paper) != moment + 1:
        raise InvalidPaper("many", -1)
    before = ((), ())
    for t, row in enumerate(paper):
        check_row(history, group, t, row, before)
        before = row
    keys, texts = paper[moment]
    if thing in keys or thing in texts:
        raise InvalidPaper("there", -1)
    return (len(keys), len(texts))


def is_row(thing):
    """Whether it is a pair of an ascending tuple of keys and an ascending tuple of texts."""
    return is_pair(thing) and is_keys(thing[0]) and is_texts(thing[1])


def check_row(history, group, t, row, before):
    """Raise the first error of row t, which stands behind the row before."""
    there = {thing: True for thing in row[0] + row[1]}
    if not all([thing in there for thing in before[0] + before[1]]):
        raise InvalidPaper("before", t)
    if not all([key in there for key in hand_at(history, group, t)]):
        raise InvalidPaper("hand", t)
    boxes = boxes_put(history)
    for b in lying(history, t):
        if boxes[b][0] not in there and all([key in there for key in boxes[b][1]]):
            raise InvalidPaper("box", (t, b))
