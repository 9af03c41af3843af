"""Steps by kind, rows and led Vaults once more, as plainly as possible ([62] to [72])."""

import re

from tests.naive import is_name, is_number, is_row
from tests.naivetimes import had, puts, there
from tests.naiveturns import FRESH, are_goals, led, plan_error, records_of, stepped, stops
from tests.naivevaults import exposed, is_good

PATTERNS = {"name": "[a-z]{1,8}", "number": "(0|[1-9][0-9]{0,59})", "names": "[a-z]{1,8}(,[a-z]{1,8})*",
            "keys": "(-|(0|[1-9][0-9]{0,59})(,(0|[1-9][0-9]{0,59}))*)", "way": "(on|new)"}
HEADS = {"come": ["name"], "go": ["name", "number", "name"], "leak": ["number"], "renew": ["name"], "look": ["name", "number"],
         "take": ["number"], "write": ["name"]}
GOAL = ["name", "number", "names", "way", "keys"]


def is_names(value):
    return is_row(value, is_name) and value != ()


def is_goals(value):
    return is_row(value, lambda one: type(one) is tuple and len(one) == 3 and is_name(one[0]) and is_number(
        one[1]) and is_names(one[2]))


def is_plan(value):
    return is_row(value, lambda one: type(one) is tuple and len(one) == 2 and type(one[0]) is str and one[0] in (
        "on", "new") and is_row(one[1], is_number))


def is_step(value):
    """Whether any value is a step by kind."""
    if type(value) is not tuple or not value or type(value[0]) is not str:
        return False
    if value[0] in HEADS:
        kinds = [{"name": is_name, "number": is_number}[kind] for kind in HEADS[value[0]]]
    elif value[0] == "begin":
        kinds = [is_name, lambda sides: is_row(sides, is_names) and len(sides) in (1, 2)]
    elif value[0] in ("turn", "stop"):
        kinds = [is_goals, is_plan] + [is_number] * (value[0] == "stop")
    else:
        return False
    if len(value) != 1 + len(kinds) or not all(kind(one) for kind, one in zip(kinds, value[1:])):
        return False
    return value[0] not in ("turn", "stop") or len(value[1]) == len(value[2])


def behind(vault, step):
    """The vault behind any value as a step, or the word that bars it."""
    if not is_step(step):
        return "shape"
    if step[0] not in ("turn", "stop"):
        return stepped(vault, step)
    if not are_goals(vault, step[1]):
        return "goals"
    number = plan_error(vault, *step[1:3])
    if isinstance(number, tuple):
        return "plan"
    rows = stops(vault, *step[1:3])
    if step[0] == "turn":
        return rows[-1]
    return rows[step[3] - 1] if 1 <= step[3] < number else "many"


def answer(before, step, after):
    """The answer to a step that was done."""
    if step[0] in ("come", "renew"):
        return before[0]
    if step[0] == "write":
        return (step[1], len(records_of(before)[step[1]][1]))
    if step[0] == "look":
        return puts(before[3])[step[2]][0]
    return len(after[3]) - len(before[3]) if step[0] == "turn" else None


def needless(vault):
    return tuple(b for b in there(vault[3], len(vault[3])) if not isinstance(stepped(vault, ("take", b)), str))


def who_had(vault, text, word):
    names = sorted([name for name, _ in vault[1]] + ["world"])
    return tuple(name for name in names if text in had(vault[3], (name,), len(vault[3]), word))


def table(vault):
    rows = []
    for record, (sides, texts) in sorted(records_of(vault).items()):
        shown = " ".join(",".join(readers) + "=" + ("-" if lead is None else str(lead)) for readers, lead in sides)
        due = not all(is_good(vault, record, s) for s in range(len(sides)))
        rows.append([record, f"{record}.{len(texts) - 1}" if texts else "-", shown, "due" if due else "good"])
    lengths = [max(len(row[k]) for row in rows) for k in range(3)] if rows else []
    return ["  ".join([f"{row[k]:<{lengths[k]}}" for k in range(3)] + row[3:]) for row in rows]


def row(step):
    """The row of a step."""
    def listed(things):
        return ",".join(map(str, things)) or "-"

    head, *rest = step
    if head == "begin":
        return " ".join([head, rest[0], *map(listed, rest[1])])
    if head in ("turn", "stop"):
        goals = " ".join(f"{goal[0]} {goal[1]} {listed(goal[2])} {entry[0]} {listed(entry[1])}" for goal, entry in zip(*rest[:2]))
        return " ".join([head, *map(str, rest[2:]), goals or "-"])
    return " ".join([head, *map(str, rest)])


def read(text):
    """The step that a string writes, or the field at which it is not valid."""
    words = text.split(" ")
    head = words[0]
    if head in HEADS:
        kinds = HEADS[head]
    elif head == "begin":
        kinds = ["name"] + ["names"] * min(max(len(words) - 2, 1), 2)
    elif head in ("turn", "stop"):
        kinds = ["number"] * (head == "stop")
        at = 1 + len(kinds)
        many = -(-max(len(words) - at, 1) // 5)
        kinds = kinds + (["none"] if words[at:at + 1] == ["-"] else GOAL * many)
    else:
        return 0
    for k, kind in enumerate(kinds):
        if k + 1 >= len(words):
            return len(words)
        if kind != "none" and not re.fullmatch(PATTERNS[kind], words[k + 1], re.ASCII):
            return k + 1
    if len(words) > len(kinds) + 1:
        return len(kinds) + 1
    return step_of(head, words[1:])


def step_of(head, words):
    def numbers(word):
        return () if word == "-" else tuple(int(digits) for digits in word.split(","))

    if head in HEADS:
        return (head, *[int(word) if kind == "number" else word for kind, word in zip(HEADS[head], words)])
    if head == "begin":
        return (head, words[0], tuple(tuple(word.split(",")) for word in words[1:]))
    many = tuple(int(word) for word in words[:head == "stop"])
    words = words[head == "stop":]
    starts = [] if words == ["-"] else range(0, len(words), 5)
    goals = tuple((words[k], int(words[k + 1]), tuple(words[k + 2].split(","))) for k in starts)
    return (head, goals, tuple((words[k + 3], numbers(words[k + 4])) for k in starts), *many)


def led_log(seed, many=25, **named):
    """A log of drawn steps, and the vault behind it."""
    rows = list(led(seed, many, **named))
    return tuple(step for step, _ in rows), rows[-1][1] if rows else FRESH


def told_by(vault):
    """What a Vault with this vault tells, without arguments."""
    history = vault[3]
    lying = tuple(there(history, len(history)))
    hands = tuple((name, tuple(sorted({deed[2] for deed in history if deed[0] == "hand" and deed[1] == name})))
                  for name, _ in vault[1])
    goals = tuple([(record, s, readers) for s, (readers, _) in enumerate(sides) if not is_good(vault, record, s)][:1]
                  for record, sides, _ in vault[2])
    return {"due_goals": tuple(goal for row in goals for goal in row), "holders": tuple(name for name, _ in vault[1]),
            "records": tuple(record for record, _, _ in vault[2]), "shelf": (hands, tuple(puts(history)[b] for b in lying)),
            "lying": lying, "needless": needless(vault), "room": len(lying), "boxes": tuple(puts(history)),
            "exposed": exposed(vault), "table": table(vault)}
