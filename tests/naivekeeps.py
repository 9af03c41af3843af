"""Groups papers, keeps and keep papers once more, as plainly as possible ([28] to [33])."""

from tests.naive import closed_error, closure, goes_up, is_name, is_number, is_row, is_text, parts_of, way_error

TWO = ((("ann", "cy"), ("b", 0)),)
THREE = ((("ann", "bob", "cy"), ("b", 0)),)


def hand_of(shelf, group):
    """The ascending tuple of the keys of a group."""
    return tuple(sorted({key for holder, keys in shelf[0] if holder in group for key in keys}))


def is_pair(value):
    return type(value) is tuple and len(value) == 2


def is_names(value):
    return is_row(value, is_name)


def is_numbers(value):
    return is_row(value, is_number)


def is_closed_shape(value):
    return is_pair(value) and is_numbers(value[0]) and is_row(value[1], is_text)


def groups_error(shelf, thing, value):
    """The first error of a groups paper as (word, at), or its two numbers in a list."""
    def first(one):
        return is_pair(one) and is_names(one[0]) and is_numbers(one[1])

    def second(one):
        return is_pair(one) and is_names(one[0]) and is_closed_shape(one[1])

    if not is_pair(value) or not is_row(value[0], first) or not is_row(value[1], second):
        return ("shape", -1)
    holders = [holder for holder, _ in shelf[0]]
    for side in (0, 1):
        for k, (names, proof) in enumerate(value[side]):
            if not goes_up(names) or not set(names) <= set(holders) or k and not value[side][k - 1][0] < names:
                return ("group", (side, k))
            group = names if side == 0 else [holder for holder in holders if holder not in names]
            check = way_error if side == 0 else closed_error
            if isinstance(check(hand_of(shelf, group), shelf[1], thing, proof), tuple):
                return (("way", "closed")[side], (side, k))
    groups, locks = [[set(entry[0]) for entry in part] for part in value]
    for side, (some, others) in enumerate(((groups, locks), (locks, groups))):
        for k, one in enumerate(some):
            if any({holder} not in [one & other for other in others] for holder in one):
                return ("least", (side, k))
    for part in map(set, parts_of(holders)):
        if not any(group <= part for group in groups) and all(lock & part for lock in locks):
            return ("dual", -1)
    return [len(groups), len(locks)]


def met(shelf, demands, kept):
    """Whether these boxes alone meet the demands."""
    boxes = [shelf[1][b] for b in kept]
    return all(thing in closure(hand_of(shelf, group), boxes) for group, thing in demands)


def keeps(shelf, demands):
    """All keeps, those with fewer boxes first."""
    return [part for part in parts_of(range(len(shelf[1]))) if met(shelf, demands, part)]


def is_tree(value):
    if value is None:
        return True
    if type(value) is not tuple or len(value) != 3:
        return False
    return is_number(value[0]) and is_closed_shape(value[1]) and is_row(value[2], is_tree)


def keep_error(shelf, demands, value):
    """The first error of a keep paper as (word, at), or the number of its boxes."""
    if type(value) is not tuple or len(value) != 3:
        return ("shape", -1)
    kept, ways, tree = value
    if not is_numbers(kept) or not is_row(ways, is_numbers) or not is_tree(tree):
        return ("shape", -1)
    for k, b in enumerate(kept):
        if b not in range(len(shelf[1])) or k and not kept[k - 1] < b:
            return ("kept", k)
    if len(ways) != len(demands):
        return ("ways", -1)
    for d, (group, thing) in enumerate(demands):
        told = way_error(hand_of(shelf, group), shelf[1], thing, ways[d])
        if not set(ways[d]) <= set(kept) or isinstance(told, tuple):
            return ("way", d)
    return tree_error(shelf, demands, len(kept), tree, (), ()) or len(kept)


def tree_error(shelf, demands, many, tree, chosen, path):
    """The first error of a place of the tree and of those below it, or None."""
    if (tree is None) != (len(chosen) == many):
        return ("end", path)
    if tree is None:
        return None
    d, closed, branches = tree
    if d not in range(len(demands)):
        return ("demand", path)
    group, thing = demands[d]
    boxes = [shelf[1][b] for b in chosen]
    if isinstance(closed_error(hand_of(shelf, group), boxes, thing, closed), tuple):
        return ("closed", path)
    there = set(closed[0]) | set(closed[1])
    numbers = [b for b, (inside, needed) in enumerate(shelf[1]) if set(needed) <= there and inside not in there]
    if len(numbers) != len(branches):
        return ("branches", path)
    for k, b in enumerate(numbers):
        told = tree_error(shelf, demands, many, branches[k], chosen + (b,), path + (k,))
        if told:
            return told
    return None
