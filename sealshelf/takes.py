"""Which puts keep a thing from being remembered when they are taken off, and until when ([43], [44])."""

from sealshelf.choosing import is_part
from sealshelf.errors import InvalidStep
from sealshelf.havings import memory_at
from sealshelf.kinds import is_number
from sealshelf.lyings import boxes_put, check_members, lying
from sealshelf.timedways import steps_to


def last_take(history, group, thing, b):
    """The last moment at which taking put b off keeps the thing off, or None."""
    check_members(history, group)
    if not is_number(b) or b >= len(boxes_put(history)):
        raise InvalidStep(("take", b), "lies")
    last = None
    if steps_without(history, group, thing, ()) is None:
        return last
    for moment in range(len(history) + 1):
        if b in lying(history, moment):
            if steps_without(history, group, thing, ((b, moment),)) is not None:
                return last
            last = moment
    return last


def keeping_off(history, group, thing):
    """The ascending tuple of the puts that have a last take."""
    check_members(history, group)
    # A put that some way does without keeps nothing off.
    way = steps_without(history, group, thing, ()) or ()
    return tuple(sorted([b for _, b in way if steps_without(history, group, thing, ((b, 0),)) is None]))


def least_offs(history, group, thing, *, most=2):
    """The ascending tuple of all least sets of at most so many puts that keep the thing off together."""
    check_members(history, group)
    found = sorted(set(offs_with(history, group, thing, (), most)))
    return tuple([off for off in found if not any([is_part(other, off) for other in found])])


def offs_with(history, group, thing, off, left):
    """Tuples of puts that keep the thing off: those of off and at most left more.

    All least ones are among them: each has a put of the way that is left
    without some of its puts.
    """
    way = steps_without(history, group, thing, tuple([(b, 0) for b in off]))
    if way is None:
        return [off]
    found = []
    if left > 0:
        for _, b in way:
            found.extend(offs_with(history, group, thing, tuple(sorted(off + (b,))), left - 1))
    return found


def steps_without(history, group, thing, off):
    """Any timed way by which the group remembers the thing at the last moment, puts taken off; or None."""
    return steps_to(memory_at(history, group, len(history), off), boxes_put(history), thing)
