"""Turns, done box by box ([58], [59])."""

from sealshelf.errors import InvalidPaper, InvalidStep
from sealshelf.goals import are_goals
from sealshelf.havings import has
from sealshelf.planchecker import lets_plan, turn_by
from sealshelf.vaultfacts import record_in
from sealshelf.vaultsteps import with_record


def turned(vault, goals, plan):
    """The vault behind a turn."""
    check_turn(vault, goals, plan)
    turn = turn_by(vault, goals, plan)
    boxes, _ = boxes_of(turn, plan)
    return vault_behind(turn, boxes, True, True)


def stops_of(vault, goals, plan):
    """The vaults behind each box of a turn."""
    check_turn(vault, goals, plan)
    turn = turn_by(vault, goals, plan)
    boxes, early = boxes_of(turn, plan)
    for many in range(1, len(boxes) + 1):
        yield vault_behind(turn, boxes[:many], many >= early, many == len(boxes))


def check_turn(vault, goals, plan):
    """Raise InvalidStep if any values are no goals, or no plan for them."""
    step = ("turn", goals, plan)
    if not are_goals(vault, goals):
        raise InvalidStep(step, "goals")
    try:
        lets_plan(vault, goals, plan)
    except InvalidPaper:
        raise InvalidStep(step, "plan") from None


def boxes_of(turn, plan):
    """The tuple of the boxes in the order in which they are put, and how many are of the first two sorts."""
    early = []
    late = []
    for k in turn.order:
        reaching = turn.reaching(k)
        coming = turn.coming(k)
        for key in plan[k][1]:
            # Nobody who comes has a lead ahead of the box with the text that it opens.
            row = late if any([name in coming for name in reaching[key]]) else early
            row.append((turn.lead[k], (key,)))
    begin = early + turn.text_boxes()
    return (tuple(begin + late), len(begin))


def vault_behind(turn, boxes, reading, done):
    """The vault behind these boxes of a turn.

    reading tells whether those who have a lead by then read, and done whether
    these are all boxes of the turn.
    """
    after, holders, records, history = turn.facts.vault
    vault = (turn.after, holders, records, history + tuple([("put", box) for box in boxes]))
    for k in range(len(turn.goals)):
        if reading:
            vault = with_readers(vault, turn, k)
        if done:
            vault = with_lead(vault, turn, k)
    return vault


def with_readers(vault, turn, k):
    """The vault where those of due who have the lead of goal k now are readers, of the newest text, too."""
    record, side, due = turn.goals[k]
    _, sides, texts = record_in(vault, record)
    history = vault[3]
    reading = [name for name in due if has(history, (name,), len(history), turn.lead[k], "now")]
    readers, lead = sides[side]
    sides = replaced(sides, side, (joined(readers, reading), lead))
    if texts:
        newest = texts[-1]
        texts = texts[:-1] + (replaced(newest, side, joined(newest[side], reading)),)
    return with_record(vault, (record, sides, texts))


def with_lead(vault, turn, k):
    """The vault where goal k has its lead."""
    record, side, _ = turn.goals[k]
    _, sides, texts = record_in(vault, record)
    return with_record(vault, (record, replaced(sides, side, (sides[side][0], turn.lead[k])), texts))


def replaced(row, k, one):
    """The tuple with this element in place of element k."""
    return row[:k] + (one,) + row[k + 1:]


def joined(names, others):
    """The ascending tuple of all these names."""
    return tuple(sorted(set(list(names) + others)))
