"""Histories once more, as plainly as possible and word by word ([5], [36] to [46])."""

import random

from tests.naive import closure, goes_up, is_name, is_number, is_row, is_text, is_thing, pair, parts_of

MEMO = ("memo", 0)
DAYS = (("hand", "ann", 0), ("put", (1, (0,))), ("hand", "bob", 2), ("put", (MEMO, (1, 2))), ("take", 0),
        ("hand", "bob", 0), ("leak", 2))
WORDS = ("now", "remembered", "copied", "logged")


def puts(history):
    """The boxes that were put, by number."""
    return [deed[1] for deed in history if deed[0] == "put"]


def there(history, moment):
    """The numbers of the puts that lie there."""
    numbers = []
    many = 0
    for deed in history[:moment]:
        if deed[0] == "put":
            numbers.append(many)
            many += 1
        elif deed[0] == "take":
            numbers.remove(deed[1])
    return numbers


def hand(history, group, moment):
    """The set of the keys that were handed to the group, or leaked to it, until then."""
    found = set()
    for deed in history[:moment]:
        if deed[0] == "hand" and deed[1] in group:
            found.add(deed[2])
        elif deed[0] == "leak" and "world" in group:
            found.add(deed[1])
    return found


def had(history, group, moment, word):
    """The set of what a group has at a moment."""
    boxes = puts(history)
    if word == "now":
        return closure(hand(history, group, moment), [boxes[b] for b in there(history, moment)])
    if word == "copied":
        return closure(hand(history, group, moment), puts(history[:moment]))
    if word == "logged":
        opened = [deed[2] for deed in history[:moment] if deed[0] == "open" and deed[1] in group]
        return hand(history, group, moment) | {boxes[b][0] for b in opened}
    return remembered(history, group, moment, lambda t: there(history, t))


def remembered(history, group, moment, lying):
    """The set of what a group remembers, if the numbers of what lies there at t are lying(t)."""
    things = set()
    for t in range(1, moment + 1):
        things = closure(things | hand(history, group, t), [puts(history)[b] for b in lying(t)])
    return things


def without(history, group, off):
    """What the group remembers at the last moment, if put b is off from moment off[b] on."""
    def lying(t):
        return [b for b in there(history, t) if b not in off or t < off[b]]

    return remembered(history, group, len(history), lying)


def apart(history, group, moment, since):
    """The set of what a group has that comes together at since."""
    things = set()
    for name in group:
        things |= had(history, (name,), min(moment, since), "remembered")
    for t in range(since, moment + 1):
        boxes = [puts(history)[b] for b in there(history, t)]
        things = closure(things | (hand(history, group, t) if t > since else set()), boxes)
    return things


def holders(history):
    return sorted({deed[1] for deed in history if deed[0] == "hand"})


def is_box(value):
    if type(value) is not tuple or len(value) != 2 or not is_thing(value[0]) or not is_row(value[1], is_number):
        return False
    return len(value[1]) > 0 and goes_up(value[1]) and value[0] not in value[1]


def is_deed(value):
    shapes = {"hand": (is_name, is_number), "put": (is_box,), "take": (is_number,), "open": (is_name, is_number),
              "leak": (is_number,)}
    if type(value) is not tuple or not value or type(value[0]) is not str or value[0] not in shapes:
        return False
    kinds = shapes[value[0]]
    return len(value) == 1 + len(kinds) and all(kind(one) for kind, one in zip(kinds, value[1:]))


def history_error(value):
    """The first error of a history as (word, at), or the number of its puts."""
    if not is_row(value, is_deed):
        return ("shape", -1)
    for k, deed in enumerate(value):
        if deed[0] in ("hand", "open") and deed[1] == "world":
            return ("holder", k)
        if deed[0] in ("take", "open") and deed[-1] not in there(value, k):
            return ("lies", k)
        if deed[0] == "open":
            needed = puts(value)[deed[2]][1]
            if not set(needed) <= had(value, (deed[1],), k, "remembered"):
                return ("keys", k)
    return len(puts(value))


def some_deed(rng, names, keys, many):
    """A deed that may not be possible."""
    kind = rng.choice(("hand", "hand", "put", "put", "put", "take", "open", "open", "leak"))
    if kind == "hand":
        return ("hand", rng.choice(names), rng.randrange(keys))
    if kind == "leak":
        return ("leak", rng.randrange(keys))
    if kind == "take":
        return ("take", rng.randrange(many + 1))
    if kind == "open":
        return ("open", rng.choice(names), rng.randrange(many + 1))
    thing = ("memo", rng.randrange(2)) if rng.random() < 0.35 else rng.randrange(keys)
    needed = rng.sample([key for key in range(keys) if key != thing], rng.choice((1, 1, 1, 2, 2)))
    return ("put", (thing, tuple(sorted(needed))))


def some_history(seed, most=14, keys=5, names=("ann", "bob", "cy")):
    """A history with up to so many deeds, also with equal boxes, repeated hands and boxes put again."""
    rng = random.Random(seed)
    history = ()
    for _ in range(rng.randrange(most + 1)):
        deed = some_deed(rng, names, keys, len(puts(history)))
        if history and rng.random() < 0.15:
            deed = rng.choice(history)
        if not isinstance(history_error(history + (deed,)), tuple):
            history += (deed,)
    return history


def pairs(history, group, moment, word):
    """What a group has, as a pair."""
    return pair(had(history, group, moment, word))


def groups_of(history):
    """All groups of a history, with and without the world."""
    return parts_of(sorted(holders(history) + ["world"]))


def timed_error(history, group, moment, thing, word, value):
    """The first error of a timed way as (word, at), or the number of its steps."""
    def step(one):
        return type(one) is tuple and len(one) == 2 and is_number(one[0]) and is_number(one[1])

    if not is_row(value, step if word == "remembered" else is_number):
        return ("shape", -1)
    steps = value if word == "remembered" else [(moment, b) for b in value]
    things = set()
    for k, (t, b) in enumerate(steps):
        if not (steps[k - 1][0] if k else 0) <= t <= moment:
            return ("moment", k)
        if b not in (range(len(puts(history[:t]))) if word == "copied" else there(history, t)):
            return ("lies", k)
        if not set(puts(history)[b][1]) <= things | hand(history, group, t):
            return ("keys", k)
        things.add(puts(history)[b][0])
    return len(steps) if thing in things | hand(history, group, moment) else ("last", -1)


def table_error(history, group, moment, thing, value):
    """The first error of a table as (word, at), or the two numbers of its last row in a list."""
    def row(one):
        return type(one) is tuple and len(one) == 2 and is_row(one[0], is_number) and is_row(one[1], is_text) and goes_up(
            one[0]) and goes_up(one[1])

    if not is_row(value, row):
        return ("shape", -1)
    if len(value) != moment + 1:
        return ("many", -1)
    rows = [set(keys) | set(texts) for keys, texts in value]
    for t, things in enumerate(rows):
        if t and not rows[t - 1] <= things:
            return ("before", t)
        if not hand(history, group, t) <= things:
            return ("hand", t)
        for b in there(history, t):
            inside, needed = puts(history)[b]
            if set(needed) <= things and inside not in things:
                return ("box", (t, b))
    return ("there", -1) if thing in rows[-1] else [len(value[-1][0]), len(value[-1][1])]
