"""What groups of holders open, least groups and least locks ([24], [25])."""

from sealshelf.choosing import chosen_of, least_of
from sealshelf.errors import UnknownHolder
from sealshelf.openings import opened, opens


def opened_by(shelf, group):
    """The pair (keys, texts) that the group opens."""
    check_group(shelf, group)
    return opened(keys_of_group(shelf, group), shelf[1])


def opens_together(shelf, group, thing):
    """Whether the group opens the thing."""
    check_group(shelf, group)
    return opens(keys_of_group(shelf, group), shelf[1], thing)


def alone(shelf, thing):
    """The ascending tuple of the holders who open the thing alone."""
    return tuple([holder for holder, keys in shelf[0] if opens(keys, shelf[1], thing)])


def least_groups(shelf, thing):
    """The ascending tuple of all least groups for the thing."""
    holders = holders_on(shelf)

    def opens_it(mask):
        return opens(keys_of_group(shelf, chosen_of(holders, mask)), shelf[1], thing)

    return least_of(holders, opens_it)


def least_locks(shelf, thing):
    """The ascending tuple of all least locks for the thing."""
    holders = holders_on(shelf)

    def locks_it(mask):
        others = others_than(shelf, chosen_of(holders, mask))
        return not opens(keys_of_group(shelf, others), shelf[1], thing)

    return least_of(holders, locks_it)


def check_group(shelf, group):
    """Raise UnknownHolder for the first value that is no holder of the shelf or occurs before."""
    check_known(holders_on(shelf), group)


def check_known(names, group):
    """Raise UnknownHolder for the first value of a group that is none of the names or occurs before."""
    for k, value in enumerate(group):
        if value not in names or value in group[:k]:
            raise UnknownHolder(value)


def holders_on(shelf):
    """The list of the holders of a shelf, ascending."""
    return [hand[0] for hand in shelf[0]]


def others_than(shelf, group):
    """The list of the holders that are not in the group."""
    return [holder for holder in holders_on(shelf) if holder not in group]


def keys_of_group(shelf, group):
    """The ascending tuple of the keys in the hands of the group."""
    return tuple(sorted({key for holder, keys in shelf[0] if holder in group for key in keys}))
