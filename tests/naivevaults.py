"""Vaults once more, as plainly as possible ([6], [7], [48], [50])."""

import random

from tests.naive import goes_up, is_name, is_number, is_row, pair
from tests.naivetimes import had, history_error, puts, some_deed

MEMO = ("memo", 0)
VAULT = (4, (("ann", 0), ("bob", 1), ("cy", 2)), (("memo", ((("ann", "bob"), 3),), ((("ann", "bob"),),)),),
         (("hand", "ann", 0), ("hand", "bob", 1), ("hand", "cy", 2), ("put", (3, (0,))), ("put", (3, (1,))),
          ("put", (MEMO, (3,)))))
TWO_SIDES = (6, VAULT[1], (("memo", ((("ann", "bob"), 3), (("bob", "cy"), 4)), ((("ann", "bob"), ("bob", "cy")),)),),
             VAULT[3][:5] + (("put", (4, (1,))), ("put", (4, (2,))), ("put", (MEMO, (3, 4)))))


def leaked(vault, key):
    """The vault behind one more deed: a key leaks."""
    return vault[:3] + (vault[3] + (("leak", key),),)


def others(vault, holders):
    """The outsiders of some holders."""
    return [name for name, _ in vault[1] if name not in holders] + ["world"]


def outside(vault, holders):
    """The set of what the outsiders of some holders have copied."""
    return had(vault[3], others(vault, holders), len(vault[3]), "copied")


def is_good(vault, record, side):
    readers, lead = dict((name, sides) for name, sides, _ in vault[2])[record][side]
    if lead is None or lead in outside(vault, readers):
        return False
    return all(lead in had(vault[3], (reader,), len(vault[3]), "now") for reader in readers)


def texts_of(vault):
    """A dict: for each text its readers on each side."""
    return {(record, n): readers for record, _, texts in vault[2] for n, readers in enumerate(texts)}


def exposed(vault):
    """The exposed texts, ascending: all moments behind a leak are looked at."""
    history = vault[3]
    behind = [k + 1 for k, deed in enumerate(history) if deed[0] == "leak"]
    return tuple(text for text, sides in sorted(texts_of(vault).items()) if any(
        text in had(history, others(vault, readers), moment, "copied") for moment in behind for readers in sides))


def is_record(value):
    if type(value) is not tuple or len(value) != 3 or not is_name(value[0]):
        return False
    _, sides, texts = value
    if not is_row(sides, is_side) or len(sides) not in (1, 2):
        return False
    return is_row(texts, lambda one: is_row(one, is_names) and len(one) == len(sides))


def is_side(value):
    if type(value) is not tuple or len(value) != 2 or not is_names(value[0]) or value[0] == ():
        return False
    return value[1] is None or is_number(value[1])


def is_names(value):
    return is_row(value, is_name)


def vault_error(value):
    """The first error of a vault as (word, at), or its two numbers in a list."""
    if type(value) is not tuple or len(value) != 4 or not is_number(value[0]) or type(value[3]) is not tuple:
        return ("shape", -1)
    after, holders, records, history = value
    if not is_row(holders, lambda one: type(one) is tuple and len(one) == 2 and is_name(one[0]) and is_number(one[1])):
        return ("shape", -1)
    if not is_row(records, is_record):
        return ("shape", -1)
    told = history_error(history)
    if isinstance(told, tuple):
        return told
    return holders_error(after, holders, history) or records_error(value) or deeds_error(value) or [
        len(holders), len(records)]


def holders_error(after, holders, history):
    for k, (name, own) in enumerate(holders):
        if name == "world" or k and not holders[k - 1][0] < name:
            return ("holder", k)
        if own not in range(after) or {deed[1] for deed in history if deed[0] == "hand" and deed[2] == own} != {name}:
            return ("own", k)
    return None


def records_error(vault):
    names = [name for name, _ in vault[1]]
    for k, (record, sides, texts) in enumerate(vault[2]):
        if k and not vault[2][k - 1][0] < record:
            return ("record", k)
        for s, (readers, lead) in enumerate(sides):
            if not goes_up(readers) or not set(readers) <= set(names):
                return ("readers", (k, s))
            if lead is not None and lead not in range(vault[0]):
                return ("lead", (k, s))
        for n, text in enumerate(texts):
            if any(not goes_up(readers) or not set(readers) <= set(names) for readers in text):
                return ("text", (k, n))
            if n + 1 == len(texts) and any(not set(sides[s][0]) <= set(text[s]) for s in range(len(sides))):
                return ("text", (k, n))
            if (record, n) not in [thing for thing, _ in puts(vault[3])]:
                return ("put", (k, n))
    return None


def deeds_error(vault):
    names = [name for name, _ in vault[1]]
    for k, deed in enumerate(vault[3]):
        if deed[0] in ("hand", "open") and deed[1] not in names:
            return ("deed", k)
        found = deed[1][1] + (deed[1][0],) if deed[0] == "put" else deed[-1:] if deed[0] in ("hand", "leak") else ()
        for one in found:
            if one >= vault[0] if is_number(one) else one not in texts_of(vault):
                return ("deed", k)
    return None


def some_vault(seed, most=10):
    """A vault, often not sound, with one or two sides, leads None, texts with many readers and keys that leaked."""
    rng = random.Random(seed)
    names = ("ann", "bob", "cy", "dee")[:rng.randrange(5)]
    after = len(names) + rng.randrange(4)
    holders = tuple((name, k) for k, name in enumerate(names))
    history = tuple(("hand", name, k) for name, k in holders)
    records = tuple(some_record(rng, record, names, after) for record in ("memo", "plan")[:rng.randrange(3)] if names)
    texts = [(record, n) for record, _, written in records for n in range(len(written))]
    for text in texts:
        history += (("put", (text, (rng.randrange(after),))),)
    for _ in range(rng.randrange(most) if names and after > 2 else 0):
        deed = some_deed(rng, names, after, len(puts(history)))
        if deed[0] == "put" and isinstance(deed[1][0], tuple):
            deed = ("put", (rng.choice(texts + [("none", 0)]), deed[1][1]))
        if isinstance(vault_error((after, holders, records, history + (deed,))), list):
            history += (deed,)
    return (after, holders, records, history)


def some_record(rng, record, names, after):
    def some(kept=()):
        chosen = rng.sample(names, rng.randrange(1 if not kept else 0, len(names) + 1))
        return tuple(sorted({*chosen, *kept}))

    sides = tuple((some(), rng.choice([None, *range(after)])) for _ in range(rng.choice((1, 1, 2))))
    many = rng.randrange(3)
    texts = [tuple(some(readers if n + 1 == many else ()) for readers, _ in sides) for n in range(many)]
    return (record, sides, tuple(texts))


def outside_pair(vault, holders):
    return pair(outside(vault, holders))
