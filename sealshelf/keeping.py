"""Which boxes of a shelf can be taken off while demands stay met ([30], [31])."""

from sealshelf.choosing import chosen_of, least_of
from sealshelf.errors import Locked
from sealshelf.groups import check_group, keys_of_group
from sealshelf.openings import opens


def meets(shelf, demands, kept):
    """Whether the demands are met by the boxes whose indexes are kept."""
    aims = aims_of(shelf, demands)
    return unmet(aims, [shelf[1][b] for b in kept]) is None


def needless(shelf, demands):
    """The ascending tuple of the boxes without each of which alone the demands are met."""
    aims = aims_met(shelf, demands)
    boxes = shelf[1]
    return tuple([b for b in range(len(boxes)) if unmet(aims, boxes[:b] + boxes[b + 1:]) is None])


def least_keeps(shelf, demands):
    """The ascending tuple of all keeps that contain no other keep."""
    aims = aims_met(shelf, demands)
    boxes = shelf[1]

    def keeps(mask):
        return unmet(aims, chosen_of(boxes, mask)) is None

    return least_of(tuple(range(len(boxes))), keeps)


def fewest_kept(shelf, demands):
    """Any keep with the fewest boxes."""
    return min(least_keeps(shelf, demands), key=len)


def aims_of(shelf, demands):
    """For each demand the pair of the keys of its group and of its thing."""
    for group, _ in demands:
        check_group(shelf, group)
    return [(keys_of_group(shelf, group), thing) for group, thing in demands]


def aims_met(shelf, demands):
    """The aims of demands that all boxes together meet; Locked if they do not."""
    aims = aims_of(shelf, demands)
    d = unmet(aims, shelf[1])
    if d is not None:
        raise Locked(aims[d][1])
    return aims


def unmet(aims, boxes):
    """The index of the first aim that the boxes do not meet, or None."""
    for d, (keys, thing) in enumerate(aims):
        if not opens(keys, boxes, thing):
            return d
    return None
