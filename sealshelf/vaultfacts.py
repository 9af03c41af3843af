"""Facts of vaults: what outsiders have, kept keys, good leads, exposed texts ([50])."""

from sealshelf.errors import Locked
from sealshelf.groups import check_known
from sealshelf.havings import had, has
from sealshelf.kinds import is_text


def outside(vault, holders):
    """The pair (keys, texts) of what the outsiders of a group of holders have copied."""
    check_known(holders_in(vault), holders)
    history = vault[3]
    return had(history, outsiders(vault, holders), len(history), "copied")


def is_kept(vault, key, holders):
    """Whether the outsiders of a group of holders do not have the key copied."""
    return key not in outside(vault, holders)[0]


def is_good(vault, record, side):
    """Whether the lead of a side of a record is kept for its readers, who all have it now."""
    _, sides, _ = record_in(vault, record)
    readers, lead = sides[side]
    if lead is None or not is_kept(vault, lead, readers):
        return False
    history = vault[3]
    return all([has(history, (reader,), len(history), lead, "now") for reader in readers])


def text_readers(vault, text):
    """The readers of a text: an ascending tuple for each side; Locked if any value is no text of the vault."""
    for one, readers in texts_in(vault):
        if is_text(text) and one == text:
            return readers
    raise Locked(text)


def exposed(vault):
    """The ascending tuple of the exposed texts."""
    history = vault[3]
    # What is copied stays copied, so the last leak exposes all that any leak exposed.
    moments = [k + 1 for k, deed in enumerate(history) if deed[0] == "leak"][-1:]
    return tuple([text for text, readers in texts_in(vault) for moment in moments
                  if any([has(history, outsiders(vault, side), moment, text, "copied") for side in readers])])


def holders_in(vault):
    """The list of the holders of a vault, ascending."""
    return [name for name, _ in vault[1]]


def record_in(vault, record):
    """The record of a vault with this name, None if any value is no such name."""
    for one in vault[2]:
        if one[0] == record:
            return one
    return None


def outsiders(vault, holders):
    """The ascending tuple of all other holders and the world."""
    others = [name for name in holders_in(vault) if name not in holders]
    return tuple(sorted(others + ["world"]))


def texts_in(vault):
    """The list of the pairs of a text of the vault and of its readers on each side, ascending."""
    return [((record, n), readers) for record, _, texts in vault[2] for n, readers in enumerate(texts)]
