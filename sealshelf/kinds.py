"""Kinds of values: each function tells of any value whether it is one."""


def is_number(thing):
    """Whether it is an integer that is at least 0; a bool is none."""
    return isinstance(thing, int) and not isinstance(thing, bool) and thing >= 0


def is_name(thing):
    """Whether it is a string of one to eight lowercase letters."""
    if not isinstance(thing, str) or not 1 <= len(thing) <= 8:
        return False
    return all(["a" <= letter <= "z" for letter in thing])


def is_holder(thing):
    """Whether it is a name that a holder can have."""
    return is_name(thing) and thing != "world"


def is_key(thing):
    """Whether it is a key: a number."""
    return is_number(thing)


def is_text(thing):
    """Whether it is a text: a pair of a record's name and a number."""
    return is_pair(thing) and is_name(thing[0]) and is_number(thing[1])


def is_thing(thing):
    """Whether it is a key or a text."""
    return is_key(thing) or is_text(thing)


def is_pair(thing):
    """Whether it is a tuple of two values."""
    return isinstance(thing, tuple) and len(thing) == 2


def is_tuple_of(is_kind, thing):
    """Whether it is a tuple of values of which is_kind holds."""
    return isinstance(thing, tuple) and all([is_kind(part) for part in thing])


def ascends(row):
    """Whether each of these values, all of one kind, is greater than the one before."""
    return all([row[k - 1] < row[k] for k in range(1, len(row))])


def is_keys(thing):
    """Whether it is an ascending tuple of keys."""
    return is_tuple_of(is_key, thing) and ascends(thing)


def is_texts(thing):
    """Whether it is an ascending tuple of texts."""
    return is_tuple_of(is_text, thing) and ascends(thing)


def is_box(thing):
    """Whether it is a pair of a thing and of keys, at least one, without the thing."""
    if not is_pair(thing) or not is_thing(thing[0]) or not is_keys(thing[1]):
        return False
    return len(thing[1]) > 0 and thing[0] not in thing[1]


def is_boxes(thing):
    """Whether it is a tuple of boxes."""
    return is_tuple_of(is_box, thing)


def is_hand(thing):
    """Whether it is a pair of a holder and of keys."""
    return is_pair(thing) and is_holder(thing[0]) and is_keys(thing[1])


def is_shelf(thing):
    """Whether it is a pair of hands, with ascending holders, and of boxes."""
    if not is_pair(thing) or not is_tuple_of(is_hand, thing[0]) or not is_boxes(thing[1]):
        return False
    return ascends([hand[0] for hand in thing[0]])
