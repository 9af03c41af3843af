"""The checker of histories ([36])."""

from sealshelf.errors import InvalidPaper
from sealshelf.havings import Memory
from sealshelf.kinds import is_box, is_key, is_name, is_number, is_tuple_of
from sealshelf.lyings import ShelfNow


def lets_history(thing):
    """How many boxes were put, if any value is a history."""
    if not is_tuple_of(is_deed, thing):
        raise InvalidPaper("shape", -1)
    shelf = ShelfNow()
    # What others remember is not asked for.
    memories = {deed[1]: Memory((deed[1],)) for deed in thing if deed[0] == "open"}
    for k, deed in enumerate(thing):
        check_deed(deed, k, shelf, memories)
        shelf.follow(deed)
        for memory in memories.values():
            memory.follow(deed, shelf)
    return len(shelf.puts)


def is_history(thing):
    """Whether any value is a history."""
    try:
        lets_history(thing)
    except InvalidPaper:
        return False
    return True


def is_deed(thing):
    """Whether it is a deed by its shape."""
    if not isinstance(thing, tuple) or not thing:
        return False
    word, rest = thing[0], thing[1:]
    if word == "hand":
        return len(rest) == 2 and is_name(rest[0]) and is_key(rest[1])
    if word == "open":
        return len(rest) == 2 and is_name(rest[0]) and is_number(rest[1])
    if word == "put":
        return len(rest) == 1 and is_box(rest[0])
    return word in ("take", "leak") and len(rest) == 1 and is_number(rest[0])


def check_deed(deed, k, shelf, memories):
    """Raise the first error of deed k at the moment ahead of it."""
    word = deed[0]
    if word in ("hand", "open") and deed[1] == "world":
        raise InvalidPaper("holder", k)
    if word in ("take", "open") and deed[-1] not in shelf.there:
        raise InvalidPaper("lies", k)
    if word == "open" and not memories[deed[1]].has_all(shelf.puts[deed[2]][1]):
        raise InvalidPaper("keys", k)
