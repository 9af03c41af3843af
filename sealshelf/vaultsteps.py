"""Steps on vaults ([49]): each returns the vault behind it, or raises InvalidStep."""

from sealshelf.errors import InvalidStep
from sealshelf.havings import had
from sealshelf.kinds import ascends, is_holder, is_key, is_name, is_number
from sealshelf.lyings import boxes_put, lying
from sealshelf.soundness import is_open
from sealshelf.vaultfacts import holders_in, is_good, record_in


def fresh_vault():
    """The vault without holders, records and deeds."""
    return (0, (), (), ())


def came(vault, holder):
    """A holder comes and is handed a key of their own."""
    step = ("come", holder)
    if not is_holder(holder):
        raise InvalidStep(step, "name")
    if holder in holders_in(vault):
        raise InvalidStep(step, "there")
    return with_own_key(vault, holder)


def begun(vault, record, *sides):
    """A record is begun: it has no leads and no texts."""
    step = ("begin", record, sides)
    if not is_name(record):
        raise InvalidStep(step, "name")
    if record_in(vault, record) is not None:
        raise InvalidStep(step, "there")
    if not 1 <= len(sides) <= 2 or not all([are_readers(vault, side) for side in sides]):
        raise InvalidStep(step, "sides")
    return with_record(vault, (record, tuple([(side, None) for side in sides]), ()))


def went(vault, record, side, holder):
    """A holder reads on a side no more."""
    step = ("go", record, side, holder)
    _, sides, texts = known_record(vault, record, step)
    if not is_number(side) or side >= len(sides):
        raise InvalidStep(step, "side")
    readers, lead = sides[side]
    if holder not in readers:
        raise InvalidStep(step, "reader")
    if len(readers) == 1:
        raise InvalidStep(step, "last")
    left = tuple([name for name in readers if name != holder])
    return with_record(vault, (record, sides[:side] + ((left, lead),) + sides[side + 1:], texts))


def leaked(vault, key):
    """The world comes to have a key."""
    if not is_key(key) or key >= vault[0]:
        raise InvalidStep(("leak", key), "key")
    return with_deed(vault, ("leak", key))


def renewed(vault, holder):
    """A holder is handed a new key of their own."""
    if holder not in holders_in(vault):
        raise InvalidStep(("renew", holder), "holder")
    return with_own_key(vault, holder)


def looked(vault, holder, b):
    """A holder opens a box, and that stands in the history."""
    step = ("look", holder, b)
    if holder not in holders_in(vault):
        raise InvalidStep(step, "holder")
    check_lies(vault, b, step)
    history = vault[3]
    keys = had(history, (holder,), len(history), "remembered")[0]
    if not all([key in keys for key in boxes_put(history)[b][1]]):
        raise InvalidStep(step, "keys")
    return with_deed(vault, ("open", holder, b))


def taken(vault, b):
    """A box is taken off, without locking out anyone who reads."""
    step = ("take", b)
    check_lies(vault, b, step)
    behind = with_deed(vault, step)
    if not is_open(behind):
        raise InvalidStep(step, "open")
    there = lead_havers(behind)
    if not all([haver in there for haver in lead_havers(vault)]):
        raise InvalidStep(step, "lead")
    return behind


def written(vault, record):
    """The next text of a record is written and sealed with the leads of all sides."""
    step = ("write", record)
    _, sides, texts = known_record(vault, record, step)
    if not all([is_good(vault, record, s) for s in range(len(sides))]):
        raise InvalidStep(step, "lead")
    leads = tuple(sorted({lead for _, lead in sides}))
    readers = tuple([readers for readers, _ in sides])
    behind = with_deed(vault, ("put", ((record, len(texts)), leads)))
    return with_record(behind, (record, sides, texts + (readers,)))


def known_record(vault, record, step):
    """The record of this name, or InvalidStep."""
    found = record_in(vault, record)
    if found is None:
        raise InvalidStep(step, "record")
    return found


def check_lies(vault, b, step):
    """Raise InvalidStep if any value is no number of a put that lies there."""
    if not is_number(b) or b not in lying(vault[3], len(vault[3])):
        raise InvalidStep(step, "box")


def are_readers(vault, side):
    """Whether any value is an ascending tuple of holders, at least one."""
    if not isinstance(side, tuple) or not side:
        return False
    return all([name in holders_in(vault) for name in side]) and ascends(side)


def lead_havers(vault):
    """The triples (record, side, reader) of all readers who have the lead of their side now."""
    history = vault[3]
    keys = {name: had(history, (name,), len(history), "now")[0] for name in holders_in(vault)}
    return [(record, s, reader) for record, sides, _ in vault[2] for s, (readers, lead) in enumerate(sides)
            for reader in readers if lead in keys[reader]]


def with_own_key(vault, holder):
    """The vault with a new own key of a holder, who may have come now."""
    key, holders, records, history = vault
    others = [pair for pair in holders if pair[0] != holder]
    return (key + 1, tuple(sorted(others + [(holder, key)])), records, history + (("hand", holder, key),))


def with_record(vault, record):
    """The vault with this record in place of the one of its name, if there was one."""
    after, holders, records, history = vault
    others = [one for one in records if one[0] != record[0]]
    return (after, holders, tuple(sorted(others + [record])), history)


def with_deed(vault, deed):
    """The vault with a deed more."""
    after, holders, records, history = vault
    return (after, holders, records, history + (deed,))
