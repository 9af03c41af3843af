"""The checker of groups papers ([29])."""

from sealshelf.choosing import chosen_of
from sealshelf.errors import InvalidPaper
from sealshelf.groups import holders_on, keys_of_group, others_than
from sealshelf.kinds import ascends, is_key, is_name, is_number, is_pair, is_text, is_tuple_of
from sealshelf.waychecker import is_closed, is_way


def lets_groups(shelf, thing, paper):
    """The pair (number of least groups, number of least locks), if the paper is a groups paper for the thing."""
    if not is_pair(paper) or not is_tuple_of(has_group_shape, paper[0]) or not is_tuple_of(has_lock_shape, paper[1]):
        raise InvalidPaper("shape", -1)
    check_groups(shelf, thing, paper[0])
    check_locks(shelf, thing, paper[1])
    groups = [entry[0] for entry in paper[0]]
    locks = [entry[0] for entry in paper[1]]
    check_least(0, groups, locks)
    check_least(1, locks, groups)
    if has_gap(holders_on(shelf), groups, locks):
        raise InvalidPaper("dual", -1)
    return (len(groups), len(locks))


def has_group_shape(thing):
    """Whether it is a pair of a tuple of names and a tuple of numbers."""
    return is_pair(thing) and is_tuple_of(is_name, thing[0]) and is_tuple_of(is_number, thing[1])


def has_lock_shape(thing):
    """Whether it is a pair of a tuple of names and a pair of tuples of keys and of texts."""
    return is_pair(thing) and is_tuple_of(is_name, thing[0]) and has_closed_shape(thing[1])


def has_closed_shape(thing):
    """Whether it is a pair of a tuple of keys and a tuple of texts, in any order."""
    return is_pair(thing) and is_tuple_of(is_key, thing[0]) and is_tuple_of(is_text, thing[1])


def check_groups(shelf, thing, entries):
    """Raise the first error of the pairs of groups and ways."""
    for g, (group, way) in enumerate(entries):
        check_names(shelf, entries, (0, g))
        if not is_way(keys_of_group(shelf, group), shelf[1], thing, way):
            raise InvalidPaper("way", (0, g))


def check_locks(shelf, thing, entries):
    """Raise the first error of the pairs of locks and closed sets."""
    for k, (lock, closed) in enumerate(entries):
        check_names(shelf, entries, (1, k))
        if not is_closed(keys_of_group(shelf, others_than(shelf, lock)), shelf[1], thing, closed):
            raise InvalidPaper("closed", (1, k))


def check_names(shelf, entries, at):
    """Raise an error if the names of an entry are no group, or not greater than those before."""
    k = at[1]
    names = entries[k][0]
    holders = holders_on(shelf)
    if not ascends(names) or not all([name in holders for name in names]):
        raise InvalidPaper("group", at)
    if k > 0 and names <= entries[k - 1][0]:
        raise InvalidPaper("group", at)


def check_least(side, groups, others):
    """Raise an error for the first group with a holder whom nothing shows to be needed in it."""
    for k, group in enumerate(groups):
        common = [[holder for holder in group if holder in other] for other in others]
        if not all([[holder] in common for holder in group]):
            raise InvalidPaper("least", (side, k))


def has_gap(holders, groups, locks):
    """Whether a group contains none of the groups and has a holder in common with each lock."""
    for mask in range(1 << len(holders)):
        some = chosen_of(holders, mask)
        inside = any([all([holder in some for holder in group]) for group in groups])
        if not inside and all([any([holder in some for holder in lock]) for lock in locks]):
            return True
    return False
