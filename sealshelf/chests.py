"""Objects that make boxes from boxes and never change ([19]).

Each derived class changes the boxes of the class that comes after it in the
method resolution order. What it changes them by has a name of its own, so that
classes can be combined.
"""

from sealshelf.kinds import is_key
from sealshelf.openings import opened


class Chest:
    """The boxes that it was given."""

    def __init__(self, boxes):
        self._boxes = boxes

    def content(self):
        """The boxes."""
        return self._boxes

    def opening(self, keys):
        """The pair of what is opened from the keys by the boxes."""
        return opened(keys, self.content())

    def __eq__(self, other):
        return isinstance(other, Chest) and self.content() == other.content()


class Without(Chest):
    """Leaves out each box whose thing is the key, or that has it among its keys."""

    def __init__(self, boxes, *, key):
        Chest.__init__(self, boxes)
        self._lost = key

    def content(self):
        """The boxes that have nothing to do with the key."""
        boxes = super().content()
        return tuple([box for box in boxes if box[0] != self._lost and self._lost not in box[1]])

    def opening(self, keys):
        """The pair of what is opened from the keys by the boxes."""
        return super().opening(keys)


class Shifted(Chest):
    """Adds a number to each key, in boxes and of boxes."""

    def __init__(self, boxes, *, by):
        Chest.__init__(self, boxes)
        self._by = by

    def content(self):
        """The boxes with their keys shifted."""
        boxes = super().content()
        return tuple([shifted_box(box, self._by) for box in boxes])

    def opening(self, keys):
        """The pair of what is opened from the keys by the boxes."""
        return super().opening(keys)


class Doubled(Chest):
    """Puts behind each box with a key a box with the same thing and another key in its place."""

    def __init__(self, boxes, *, key, extra):
        Chest.__init__(self, boxes)
        self._first = key
        self._extra = extra

    def content(self):
        """The boxes, and behind each one its twin if it has one."""
        boxes = super().content()
        rows = []
        for box in boxes:
            rows.append(box)
            if has_twin(box, self._first, self._extra):
                rows.append(twin_box(box, self._first, self._extra))
        return tuple(rows)

    def opening(self, keys):
        """The pair of what is opened from the keys by the boxes."""
        return super().opening(keys)


class ShiftedDouble(Shifted, Doubled):
    """Doubles first, and shifts then."""

    def __init__(self, boxes, *, by, key, extra):
        Shifted.__init__(self, boxes, by=by)
        Doubled.__init__(self, boxes, key=key, extra=extra)

    def content(self):
        """The boxes, doubled and then shifted."""
        return super().content()

    def opening(self, keys):
        """The pair of what is opened from the keys by the boxes."""
        return super().opening(keys)


class DoubledShift(Doubled, Shifted):
    """Shifts first, and doubles then."""

    def __init__(self, boxes, *, by, key, extra):
        Doubled.__init__(self, boxes, key=key, extra=extra)
        Shifted.__init__(self, boxes, by=by)

    def content(self):
        """The boxes, shifted and then doubled."""
        return super().content()

    def opening(self, keys):
        """The pair of what is opened from the keys by the boxes."""
        return super().opening(keys)


def shifted_box(box, by):
    """The box with by added to each key in it and of it."""
    thing, needed = box
    return (thing + by if is_key(thing) else thing, tuple([key + by for key in needed]))


def has_twin(box, key, extra):
    """Whether the box has the key, and has the other one neither in it nor among its keys."""
    thing, needed = box
    return key in needed and extra not in needed and thing != extra


def twin_box(box, key, extra):
    """The box with the other key in place of this one."""
    thing, needed = box
    return (thing, tuple(sorted([extra if one == key else one for one in needed])))
