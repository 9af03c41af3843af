"""The checker of shelves ([23])."""

from sealshelf.errors import InvalidPaper
from sealshelf.kinds import ascends, is_holder, is_key, is_name, is_pair, is_thing, is_tuple_of


def lets_shelf(thing):
    """The pair (number of holders, number of boxes) of any value that is a shelf."""
    if not is_pair(thing) or not is_tuple_of(has_hand_shape, thing[0]) or not is_tuple_of(has_box_shape, thing[1]):
        raise InvalidPaper("shape", -1)
    hands, boxes = thing
    check_hands(hands)
    check_boxes(boxes)
    return (len(hands), len(boxes))


def has_hand_shape(thing):
    """Whether it is a pair of a name and of a tuple of keys, in any order."""
    return is_pair(thing) and is_name(thing[0]) and is_tuple_of(is_key, thing[1])


def has_box_shape(thing):
    """Whether it is a pair of a thing and of a tuple of keys, in any order."""
    return is_pair(thing) and is_thing(thing[0]) and is_tuple_of(is_key, thing[1])


def check_hands(hands):
    """Raise the first error of pairs of names and keys."""
    for k, (holder, keys) in enumerate(hands):
        if not is_holder(holder) or k > 0 and holder <= hands[k - 1][0]:
            raise InvalidPaper("holder", k)
        if not ascends(keys):
            raise InvalidPaper("keys", k)


def check_boxes(boxes):
    """Raise the first error of pairs of things and keys."""
    for b, (thing, needed) in enumerate(boxes):
        if not needed:
            raise InvalidPaper("empty", b)
        if not ascends(needed):
            raise InvalidPaper("order", b)
        if thing in needed:
            raise InvalidPaper("own", b)
