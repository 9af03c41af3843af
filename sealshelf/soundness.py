"""Whether vaults are sound, and papers that show it ([7], [51], [52])."""

from sealshelf.havings import had, has
from sealshelf.lyings import boxes_put, hand_at, lying
from sealshelf.vaultfacts import exposed, outsiders, texts_in
from sealshelf.ways import closed_without, way_among


def is_open(vault):
    """Whether each group with a present reader of each side of a record has its newest text now."""
    history = vault[3]
    texts = {}
    for group, text in open_pairs(vault):
        if group not in texts:
            texts[group] = had(history, group, len(history), "now")[1]
        if text not in texts[group]:
            return False
    return True


def is_shut(vault):
    """Whether no text that is not exposed was copied by the outsiders of its readers on a side."""
    history = vault[3]
    return not any([has(history, names, len(history), text, "copied") for names, text in shut_pairs(vault)])


def is_sound(vault):
    """Whether the vault is open and shut."""
    return is_open(vault) and is_shut(vault)


def sound_paper(vault):
    """Any sound paper, or None if the vault is not sound."""
    if not is_sound(vault):
        return None
    history = vault[3]
    boxes = boxes_put(history)
    there = lying(history, len(history))
    ways = [way_among(hand_at(history, group, len(history)), boxes, there, text) for group, text in open_pairs(vault)]
    closed = [closed_without(hand_at(history, names, len(history)), boxes, text) for names, text in shut_pairs(vault)]
    return (tuple(ways), tuple(closed))


def open_pairs(vault):
    """The pairs (group, newest text), one for each choice of a present reader of each side, in order."""
    return [(tuple(sorted(set(choice))), (record, len(texts) - 1)) for record, sides, texts in vault[2] if texts
            for choice in reader_choices(sides)]


def reader_choices(sides):
    """The ascending list of all choices of a reader of each side."""
    choices = [()]
    for readers, _ in sides:
        choices = [choice + (reader,) for choice in choices for reader in readers]
    return choices


def shut_pairs(vault):
    """The pairs (outsiders, text), one for each text that is not exposed and each of its sides, in order."""
    lost = exposed(vault)
    return [(outsiders(vault, side), text) for text, readers in texts_in(vault) if text not in lost for side in readers]
