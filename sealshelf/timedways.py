"""Timed ways to a thing, and tables that show that a group has not remembered it ([40], [42])."""

from sealshelf.havings import had, has, memory_at
from sealshelf.lyings import boxes_put, check_members, check_moment, hand_at, numbers_there
from sealshelf.ways import needed_of, way_among


def timed_way(history, group, moment, thing, word):
    """Any timed way to the thing, or None; word is "now", "remembered" or "copied"."""
    check_members(history, group)
    check_moment(history, moment)
    boxes = boxes_put(history)
    if word == "remembered":
        return steps_to(memory_at(history, group, moment), boxes, thing)
    return way_among(hand_at(history, group, moment), boxes, numbers_there(history, moment, word), thing)


def steps_to(memory, boxes, thing):
    """The pairs (t, b) by which a memory came to the thing, or None if it did not."""
    if thing not in memory.steps:
        return None
    # Each put here gave a thing that was new, so needed_of can go back through them.
    moments = {b: t for t, b in memory.steps.values() if b is not None}
    return tuple([(moments[b], b) for b in needed_of(list(moments), boxes, thing)])


def table_without(history, group, moment, thing):
    """Any table without the thing in its last row, or None if the group has remembered it."""
    if has(history, group, moment, thing, "remembered"):
        return None
    return tuple([had(history, group, t, "remembered") for t in range(moment + 1)])
