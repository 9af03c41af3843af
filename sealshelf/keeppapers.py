"""Papers that show the fewest boxes that meet demands ([32])."""

from sealshelf.choosing import chosen_of, least_of
from sealshelf.keeping import aims_met, fewest_kept, unmet
from sealshelf.openings import opened
from sealshelf.ways import way_among


def keep_paper(shelf, demands):
    """Any keep paper for the demands; Locked if they are not met."""
    aims = aims_met(shelf, demands)
    boxes = shelf[1]
    kept = fewest_kept(shelf, demands)
    ways = [way_among(keys, boxes, kept, thing) for keys, thing in aims]
    cuts = sorted(least_cuts(aims, boxes), key=len)
    return (kept, tuple(ways), tree_behind(aims, boxes, cuts, (), len(kept)))


def least_cuts(aims, boxes):
    """All least tuples of indexes of boxes without which some aim is not met."""
    def cuts(mask):
        return unmet(aims, others_of(boxes, mask)) is not None

    return least_of(tuple(range(len(boxes))), cuts)


def others_of(boxes, mask):
    """The boxes that are not chosen."""
    return chosen_of(boxes, (1 << len(boxes)) - 1 - mask)


def tree_behind(aims, boxes, cuts, chosen, left):
    """The tree for the chosen boxes, if left more have to be chosen.

    Some aim is not met by what is chosen, so some cut has none of it. What the
    aim's keys open without the boxes of this cut is a closed set, and just
    these boxes leave it: a box that did not leave it would not belong to a
    least cut. The smallest such cut keeps the tree small.
    """
    if left == 0:
        return None
    cut = [one for one in cuts if not any([b in chosen for b in one])][0]
    others = [box for b, box in enumerate(boxes) if b not in cut]
    d = unmet(aims, others)
    branches = [tree_behind(aims, boxes, cuts, chosen + (b,), left - 1) for b in cut]
    return (d, opened(aims[d][0], others), tuple(branches))
