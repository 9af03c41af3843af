"""Histories as objects that never change."""

from sealshelf.havings import has
from sealshelf.historychecker import lets_history
from sealshelf.logs import holders_having
from sealshelf.lyings import check_moment, holders_of, lying


class Chronicle:
    """A history; InvalidPaper if the deeds are none."""

    def __init__(self, *deeds):
        lets_history(deeds)
        self._deeds = deeds

    @property
    def deeds(self):
        """The tuple of the deeds."""
        return self._deeds

    def walk(self):
        """The deeds one by one, in order."""
        yield from self._deeds

    def with_deed(self, deed):
        """A new one with a deed more."""
        return Chronicle(*self._deeds, deed)

    def until(self, moment):
        """A new one of the deeds until the moment."""
        check_moment(self._deeds, moment)
        deeds = self._deeds[:moment]
        return Chronicle(*deeds)

    def knows(self, thing):
        """Whether some holder alone, or the world alone, has remembered any value at the last moment."""
        names = holders_of(self._deeds) + ("world",)
        return any([has(self._deeds, (name,), len(self._deeds), thing, "remembered") for name in names])

    def who(self, thing, word):
        """The holders, ascending, who alone have the thing at the last moment in this way."""
        for name in holders_having(self._deeds, thing, word):
            yield name

    def __len__(self):
        return len(self._deeds)

    def __getitem__(self, moment):
        return lying(self._deeds, moment)

    def __iter__(self):
        raise TypeError("walk() goes through the deeds")

    def __eq__(self, other):
        # All elements of deeds are of the kinds that lets_history asks for, so
        # equal deeds have equal kinds.
        return isinstance(other, Chronicle) and self._deeds == other._deeds
