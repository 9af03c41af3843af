"""Choices, written as masks: bit k of a mask tells whether number k is chosen."""

from sealshelf.openings import opens, things_opened


def chosen_in(mask):
    """The ascending list of the numbers that are chosen."""
    return [k for k in range(mask.bit_length()) if mask >> k & 1]


def chosen_of(row, mask):
    """The tuple of those elements of the row whose indexes are chosen."""
    return tuple([row[k] for k in chosen_in(mask)])


def is_part(some, others):
    """Whether some are fewer than the others, and all of them are among these."""
    return len(some) < len(others) and all([one in others for one in some])


def least_of(row, holds):
    """The ascending tuple of the least parts of an ascending row of whose masks holds is true.

    What holds of a mask has to hold of each one that contains it.
    """
    found = []
    add_least(holds, 0, (1 << len(row)) - 1, found, {})
    return tuple(sorted([chosen_of(row, mask) for mask in found]))


def add_least(holds, inside, free, found, known):
    """Add to found each least mask that contains inside, and otherwise has bits of free only."""
    if not asked(holds, inside | free, known):
        return
    part = shrunk(holds, inside | free, free, known)
    if shrunk(holds, part, inside, known) == part:
        found.append(part)
    # Each other least mask lacks some bit of this part: it is found where the
    # first one that it lacks is left out.
    lacking = chosen_in(part & free)
    for k in lacking:
        free -= 1 << k
        add_least(holds, inside, free, found, known)
        inside |= 1 << k


def shrunk(holds, mask, bits, known):
    """The mask without those of the bits that it can lose one after the other while it holds."""
    for k in chosen_in(bits):
        if asked(holds, mask - (1 << k), known):
            mask -= 1 << k
    return mask


def asked(holds, mask, known):
    """Whether the mask holds; known has the answers that were given before."""
    if mask not in known:
        known[mask] = holds(mask)
    return known[mask]


class Choices:
    """Choices of boxes for a way that leads from keys to a thing ([14])."""

    def __init__(self, begin, boxes, thing):
        self.given = begin
        self.offered = boxes
        self.thing = thing

    def chosen(self, mask):
        """The chosen boxes."""
        return chosen_of(self.offered, mask)

    def dues(self, mask):
        """The things that are due, in the order in which they became due."""
        boxes = self.chosen(mask)
        met = {key: True for key in self.given}
        wanted = {self.thing: True}
        for thing, needed in boxes:
            met[thing] = True
            for key in needed:
                wanted[key] = True
        return [thing for thing in wanted if thing not in met]

    def boxes_with(self, thing):
        """The indexes of all boxes with this thing."""
        return [b for b, box in enumerate(self.offered) if box[0] == thing]

    def reaches(self, mask):
        """Whether the chosen boxes alone open the thing."""
        return opens(self.given, self.chosen(mask), self.thing)

    def leaving(self, mask):
        """The indexes of the boxes that leave what the chosen boxes open."""
        there = things_opened(self.given, self.chosen(mask))
        return [b for b, (thing, needed) in enumerate(self.offered)
                if thing not in there and all([key in there for key in needed])]
