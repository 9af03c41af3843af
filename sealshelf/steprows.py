"""Rows of steps ([70])."""

from sealshelf.texts import keys_text


def step_row(step):
    """The row of a step by kind."""
    word = step[0]
    if word == "begin":
        return " ".join([word, step[1]] + [names_text(side) for side in step[2]])
    if word == "turn":
        return f"turn {turn_text(step[1], step[2])}"
    if word == "stop":
        return f"stop {step[3]} {turn_text(step[1], step[2])}"
    return " ".join([str(part) for part in step])


def log_rows(log):
    """The list of the rows of a log."""
    return [step_row(step) for step in log]


def names_text(names):
    """Names with commas between them."""
    return ",".join(names)


def turn_text(goals, plan):
    """Five words for each goal with its entry of the plan, or - if there are no goals."""
    rows = []
    for k, (record, side, due) in enumerate(goals):
        word, keys = plan[k]
        rows.append(f"{record} {side} {names_text(due)} {word} {keys_text(keys)}")
    return " ".join(rows) if rows else "-"
