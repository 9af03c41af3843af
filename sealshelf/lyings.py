"""What lies on the shelf at a moment of a history, and who was handed what by then ([36], [37])."""

from sealshelf.errors import InvalidMoment
from sealshelf.groups import check_known
from sealshelf.kinds import is_number


def boxes_put(history):
    """The tuple of the boxes that were put, by number."""
    return tuple([deed[1] for deed in history if deed[0] == "put"])


def lying(history, moment):
    """The ascending tuple of the numbers of the puts that lie there at the moment."""
    check_moment(history, moment)
    deeds = history[:moment]
    taken = {deed[1]: True for deed in deeds if deed[0] == "take"}
    return tuple([b for b in range(len(boxes_put(deeds))) if b not in taken])


def numbers_there(history, moment, word):
    """The ascending tuple of the numbers of the puts from which the way that word names takes boxes."""
    if word == "copied":
        return tuple(range(len(boxes_put(history[:moment]))))
    return lying(history, moment)


def hand_at(history, group, moment):
    """The ascending tuple of the keys in the hand of the group at the moment."""
    check_members(history, group)
    check_moment(history, moment)
    deeds = history[:moment]
    handed = [deed[2] for deed in deeds if deed[0] == "hand" and deed[1] in group]
    leaked = [deed[1] for deed in deeds if deed[0] == "leak" and "world" in group]
    return tuple(sorted(set(handed + leaked)))


def holders_of(history):
    """The ascending tuple of the holders who were handed a key at some moment."""
    return tuple(sorted({deed[1] for deed in history if deed[0] == "hand"}))


def check_members(history, group):
    """Raise UnknownHolder for the first value of a group that may not stand there."""
    check_known(holders_of(history) + ("world",), group)


def check_moment(history, moment):
    """Raise InvalidMoment for any value that is not a moment of the history."""
    if not is_number(moment) or moment > len(history):
        raise InvalidMoment(moment)


class ShelfNow:
    """The boxes that lie there while deeds are done one after the other.

    off is a tuple of pairs (b, moment): put b lies there at no moment from this one on.
    """

    def __init__(self, off=()):
        self.off = off
        self.moment = 0
        self.puts = []
        self.there = {}
        self.waiting = {}

    def follow(self, deed):
        """Go on to the moment behind the deed."""
        self.moment += 1
        if deed[0] == "put":
            self.lay(deed[1])
        if deed[0] == "take":
            self.lift(deed[1])
        for b, moment in self.off:
            if moment <= self.moment:
                self.lift(b)

    def lay(self, box):
        """Put a box there, and note it for each of its keys."""
        b = len(self.puts)
        self.puts.append(box)
        self.there[b] = True
        for key in box[1]:
            self.waiting.setdefault(key, {})[b] = True

    def lift(self, b):
        """Take put b away, if it lies there."""
        if b in self.there:
            del self.there[b]
            for key in self.puts[b][1]:
                del self.waiting[key][b]

    def boxes_with(self, key):
        """The list of the numbers of the puts there whose boxes have the key."""
        return list(self.waiting.get(key, {}))
