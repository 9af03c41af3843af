"""The checker of vaults ([48])."""

from sealshelf.errors import InvalidPaper
from sealshelf.historychecker import lets_history
from sealshelf.kinds import ascends, is_key, is_name, is_number, is_pair, is_tuple_of
from sealshelf.lyings import boxes_put


def lets_vault(thing):
    """The pair (number of holders, number of records) of any value that is a vault."""
    if not has_vault_shape(thing):
        raise InvalidPaper("shape", -1)
    lets_history(thing[3])
    check_holders(thing)
    check_records(thing)
    check_deeds(thing)
    return (len(thing[1]), len(thing[2]))


def has_vault_shape(thing):
    """Whether it is a tuple of a number, of holders, of records and of a tuple, by their shapes."""
    if not isinstance(thing, tuple) or len(thing) != 4:
        return False
    if not is_number(thing[0]) or not isinstance(thing[3], tuple):
        return False
    return is_tuple_of(has_own_shape, thing[1]) and is_tuple_of(has_record_shape, thing[2])


def has_own_shape(thing):
    """Whether it is a pair of a name and a number."""
    return is_pair(thing) and is_name(thing[0]) and is_number(thing[1])


def has_record_shape(thing):
    """Whether it is a triple of a name, of one or two sides, and of texts with so many sides each."""
    if not isinstance(thing, tuple) or len(thing) != 3 or not is_name(thing[0]):
        return False
    _, sides, texts = thing
    if not is_tuple_of(has_side_shape, sides) or not 1 <= len(sides) <= 2:
        return False
    return is_tuple_of(is_tuple_of_names, texts) and all([len(text) == len(sides) for text in texts])


def has_side_shape(thing):
    """Whether it is a pair of names, at least one, and of a number or None."""
    if not is_pair(thing) or not is_names(thing[0]) or not thing[0]:
        return False
    return thing[1] is None or is_number(thing[1])


def is_names(thing):
    """Whether it is a tuple of names."""
    return is_tuple_of(is_name, thing)


def is_tuple_of_names(thing):
    """Whether it is a tuple of tuples of names."""
    return is_tuple_of(is_names, thing)


def check_holders(vault):
    """Raise the first error of the holders and their own keys."""
    to_whom = {}
    for deed in vault[3]:
        if deed[0] == "hand":
            to_whom.setdefault(deed[2], {})[deed[1]] = True
    before = ""
    for k, (name, own) in enumerate(vault[1]):
        if name == "world" or name <= before:
            raise InvalidPaper("holder", k)
        if own >= vault[0] or list(to_whom.get(own, {})) != [name]:
            raise InvalidPaper("own", k)
        before = name


def check_records(vault):
    """Raise the first error of the records."""
    names = {name: True for name, _ in vault[1]}
    there = {box[0]: True for box in boxes_put(vault[3])}
    before = ""
    for k, (record, sides, texts) in enumerate(vault[2]):
        if record <= before:
            raise InvalidPaper("record", k)
        before = record
        for s, (readers, lead) in enumerate(sides):
            if not are_holders(readers, names):
                raise InvalidPaper("readers", (k, s))
            if lead is not None and lead >= vault[0]:
                raise InvalidPaper("lead", (k, s))
        for n, text in enumerate(texts):
            if not all([are_holders(readers, names) for readers in text]):
                raise InvalidPaper("text", (k, n))
            if n == len(texts) - 1 and not all_read(sides, text):
                raise InvalidPaper("text", (k, n))
            if (record, n) not in there:
                raise InvalidPaper("put", (k, n))


def are_holders(readers, names):
    """Whether readers ascend and all are among the names."""
    return ascends(readers) and all([reader in names for reader in readers])


def all_read(sides, text):
    """Whether all present readers of each side are readers of the text on this side."""
    return all([reader in text[s] for s, (readers, _) in enumerate(sides) for reader in readers])


def check_deeds(vault):
    """Raise an error for the first deed with a holder, a key or a text that the vault does not have."""
    names = {name: True for name, _ in vault[1]}
    texts = {(record, n): True for record, _, written in vault[2] for n in range(len(written))}
    for k, deed in enumerate(vault[3]):
        if deed[0] in ("hand", "open") and deed[1] not in names:
            raise InvalidPaper("deed", k)
        for thing in things_in(deed):
            if is_key(thing) and thing >= vault[0] or not is_key(thing) and thing not in texts:
                raise InvalidPaper("deed", k)


def things_in(deed):
    """The list of all keys and texts in a deed."""
    if deed[0] == "put":
        return [deed[1][0]] + list(deed[1][1])
    return [deed[-1]] if deed[0] in ("hand", "leak") else []
