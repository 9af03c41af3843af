"""Sets of keys as objects that never change ([18])."""

from sealshelf.kinds import is_key
from sealshelf.openings import opened
from sealshelf.texts import keys_text


class Ring:
    """A set of keys; | & and - make new ones."""

    def __init__(self, *keys):
        self._members = tuple(sorted(set(keys)))

    @property
    def members(self):
        """The ascending tuple of the keys."""
        return self._members

    def walk(self):
        """The keys one by one, ascending."""
        yield from self._members

    def within(self, other):
        """Whether each key is in the other Ring."""
        return all([key in other for key in self._members])

    def opening(self, boxes):
        """The Ring of all keys that are opened from it."""
        found, _ = opened(self._members, boxes)
        return Ring(*found)

    def reading(self, boxes):
        """The ascending tuple of the texts that are opened from it."""
        _, texts = opened(self._members, boxes)
        return texts

    def __or__(self, other):
        members = self._members + other._members
        return Ring(*members)

    def __and__(self, other):
        members = [key for key in self._members if key in other._members]
        return Ring(*members)

    def __sub__(self, other):
        members = [key for key in self._members if key not in other._members]
        return Ring(*members)

    def __contains__(self, thing):
        # The kind comes first, as True would be found where 1 is.
        return is_key(thing) and thing in self._members

    def __eq__(self, other):
        return isinstance(other, Ring) and self._members == other._members

    def __len__(self):
        return len(self._members)

    def __str__(self):
        return str(keys_text(self._members))
