"""Least leaks: which keys would have to become known for a thing to be opened ([27])."""

from sealshelf.choosing import chosen_of, least_of
from sealshelf.kinds import is_key
from sealshelf.openings import opens


def least_leaks(shelf, thing, *, known=()):
    """The ascending tuple of all least leaks for the thing and the known keys."""
    hidden = [key for key in keys_occurring(shelf) if key not in known]
    boxes = shelf[1]

    def opens_it(mask):
        return opens(known + chosen_of(hidden, mask), boxes, thing)

    # Without this a thing that nobody can open would cost a trial of every set.
    if not opens(known + tuple(hidden), boxes, thing):
        return ()
    return least_of(hidden, opens_it)


def keys_occurring(shelf):
    """The ascending list of the keys that are in a hand, or are a key or the thing of a box."""
    hands, boxes = shelf
    handed = [key for _, keys in hands for key in keys]
    needed = [key for _, keys in boxes for key in keys]
    sealed = [thing for thing, _ in boxes if is_key(thing)]
    return sorted(set(handed + needed + sealed))
