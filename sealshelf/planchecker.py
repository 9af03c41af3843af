"""The checker of plans for turns ([55])."""

from sealshelf.errors import InvalidPaper
from sealshelf.goals import Facts, Turn, may_stay
from sealshelf.kinds import ascends, is_number, is_pair, is_tuple_of


def lets_plan(vault, goals, thing):
    """The number of boxes of any value that is a plan for the goals."""
    if not is_tuple_of(has_entry_shape, thing):
        raise InvalidPaper("shape", -1)
    if len(thing) != len(goals):
        raise InvalidPaper("many", -1)
    check_words(vault, goals, thing)
    turn = turn_by(vault, goals, thing)
    for k in turn.order:
        check_keys(turn, k, thing[k][1])
    return sum([len(keys) for _, keys in thing]) + len(turn.text_boxes())


def has_entry_shape(thing):
    """Whether it is a pair of a string and of a tuple of numbers."""
    return is_pair(thing) and isinstance(thing[0], str) and is_tuple_of(is_number, thing[1])


def turn_by(vault, goals, plan):
    """The turn for the goals by the ways of a plan."""
    return Turn(Facts(vault), goals, tuple([word for word, _ in plan]))


def check_words(vault, goals, plan):
    """Raise an error for the first goal that may not be met as the plan has it."""
    for k, (word, _) in enumerate(plan):
        if word not in ("on", "new"):
            raise InvalidPaper("word", k)
        if word == "on" and not may_stay(vault, goals[k]):
            raise InvalidPaper("on", k)


def check_keys(turn, k, keys):
    """Raise the first error of the keys of goal k."""
    if not ascends(keys) or keys and turn.giver[k] != k:
        raise InvalidPaper("keys", k)
    needing = turn.needing(k)
    reaching = turn.reaching(k)
    reached = []
    for j, key in enumerate(keys):
        names = reaching.get(key, ())
        if not any([name in needing for name in names]):
            raise InvalidPaper("key", (k, j))
        reached.extend(names)
    for i, name in enumerate(turn.goals[k][2]):
        if name in needing and name not in reached:
            raise InvalidPaper("reach", (k, i))
