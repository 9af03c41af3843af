"""The checker of sound papers ([52])."""

from sealshelf.errors import InvalidPaper
from sealshelf.kinds import is_number, is_pair, is_tuple_of
from sealshelf.lyings import boxes_put, hand_at, lying
from sealshelf.soundness import open_pairs, shut_pairs
from sealshelf.waychecker import is_closed, is_way


def lets_sound(vault, thing):
    """The numbers of ways and of closed sets of any value that is a sound paper for the vault."""
    if not is_pair(thing) or not isinstance(thing[0], tuple) or not isinstance(thing[1], tuple):
        raise InvalidPaper("shape", -1)
    dues = (open_pairs(vault), shut_pairs(vault))
    for k in range(2):
        if len(thing[k]) != len(dues[k]):
            raise InvalidPaper("many", k)
    check_opens(vault[3], dues[0], thing[0])
    check_shuts(vault[3], dues[1], thing[1])
    return (len(thing[0]), len(thing[1]))


def check_opens(history, pairs, ways):
    """Raise an error for the first entry that is no way of its group by boxes that lie there."""
    boxes = boxes_put(history)
    there = lying(history, len(history))
    for k, (group, text) in enumerate(pairs):
        hand = hand_at(history, group, len(history))
        # The kind comes first, as True would be found where 1 is.
        if not is_tuple_of(is_number, ways[k]) or not all([b in there for b in ways[k]]):
            raise InvalidPaper("way", k)
        if not is_way(hand, boxes, text, ways[k]):
            raise InvalidPaper("way", k)


def check_shuts(history, pairs, sets):
    """Raise an error for the first entry that is no closed set of its outsiders and all boxes."""
    boxes = boxes_put(history)
    for k, (names, text) in enumerate(pairs):
        if not is_closed(hand_at(history, names, len(history)), boxes, text, sets[k]):
            raise InvalidPaper("closed", k)
