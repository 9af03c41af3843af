"""Papers that show all least groups and all least locks ([28])."""

from sealshelf.groups import keys_of_group, least_groups, least_locks, others_than
from sealshelf.ways import closed_without, way_to


def groups_paper(shelf, thing):
    """Any groups paper for the thing."""
    boxes = shelf[1]
    groups = [(group, way_to(keys_of_group(shelf, group), boxes, thing)) for group in least_groups(shelf, thing)]
    locks = [(lock, closed_without(keys_of_group(shelf, others_than(shelf, lock)), boxes, thing))
             for lock in least_locks(shelf, thing)]
    return (tuple(groups), tuple(locks))
