"""Steps as tuples: what they are by kind, the vault behind them, and their answers ([62], [63])."""

from sealshelf.errors import InvalidStep
from sealshelf.goals import has_goal_shape
from sealshelf.kinds import is_name, is_number, is_pair, is_tuple_of
from sealshelf.lyings import boxes_put
from sealshelf.turnstops import stops_of, turned
from sealshelf.vaultfacts import record_in
from sealshelf.vaultsteps import begun, came, leaked, looked, renewed, taken, went, written

# The kinds of what stands in a step behind its word.
PARTS = {"come": ("name",), "begin": ("name", "sides"), "go": ("name", "number", "name"), "leak": ("number",),
         "renew": ("name",), "look": ("name", "number"), "take": ("number",), "write": ("name",),
         "turn": ("goals", "plan"), "stop": ("goals", "plan", "number")}


def is_step(thing):
    """Whether any value is a step by kind."""
    if not isinstance(thing, tuple) or not thing or not is_step_word(thing[0]):
        return False
    kinds = PARTS[thing[0]]
    if len(thing) != len(kinds) + 1 or not all([is_part(kinds[k], thing[k + 1]) for k in range(len(kinds))]):
        return False
    return "plan" not in kinds or len(thing[1]) == len(thing[2])


def is_step_word(thing):
    """Whether any value is the word of a step."""
    return isinstance(thing, str) and thing in PARTS


def is_part(kind, thing):
    """Whether any value is of this kind of parts of a step."""
    if kind == "name":
        return is_name(thing)
    if kind == "number":
        return is_number(thing)
    if kind == "sides":
        return is_tuple_of(is_side, thing) and 1 <= len(thing) <= 2
    return is_tuple_of(has_goal_shape if kind == "goals" else is_entry, thing)


def is_side(thing):
    """Whether it is a tuple of names, at least one."""
    return is_tuple_of(is_name, thing) and len(thing) > 0


def is_entry(thing):
    """Whether it is an entry of a plan by its kind."""
    return is_pair(thing) and thing[0] in ("on", "new") and is_tuple_of(is_number, thing[1])


def behind(vault, step):
    """The vault behind a step; InvalidStep with this very value if it is barred."""
    if not is_step(step):
        raise InvalidStep(step, "shape")
    try:
        return vault_behind(vault, step)
    except InvalidStep as barred:
        raise InvalidStep(step, barred.word) from None


def vault_behind(vault, step):
    """The vault behind a step by kind; InvalidStep with its word if it is barred."""
    word, *parts = step
    if word == "come":
        return came(vault, *parts)
    if word == "begin":
        record, sides = parts
        return begun(vault, record, *sides)
    if word == "go":
        return went(vault, *parts)
    if word == "leak":
        return leaked(vault, *parts)
    if word == "renew":
        return renewed(vault, *parts)
    if word == "look":
        return looked(vault, *parts)
    if word == "take":
        return taken(vault, *parts)
    if word == "write":
        return written(vault, *parts)
    if word == "turn":
        return turned(vault, *parts)
    return stopped(vault, *parts)


def stopped(vault, goals, plan, many):
    """The vault behind the first boxes of a turn, which is dropped then."""
    vaults = list(stops_of(vault, goals, plan))
    if many == 0 or many >= len(vaults):
        raise InvalidStep(("stop", goals, plan, many), "many")
    return vaults[many - 1]


def answer_of(vault, step, later):
    """The answer to a step that led from this vault to the later one."""
    word = step[0]
    if word in ("come", "renew"):
        return vault[0]
    if word == "write":
        return (step[1], len(record_in(vault, step[1])[2]))
    if word == "look":
        return boxes_put(vault[3])[step[2]][0]
    if word == "turn":
        return len(later[3]) - len(vault[3])
    return None
