"""Readings of rows of steps ([71]): the steps that strings write, or InvalidText."""

from sealshelf.kinds import is_name
from sealshelf.livesteps import PARTS, is_step_word
from sealshelf.readings import check_end, number_of, word_at


def read_step(text, *, row=0):
    """The step that any string writes."""
    words = text.split(" ")
    head = word_at(words, 0, head_of, row, 0)
    if head == "begin":
        return read_begin(words, row)
    if head == "turn":
        return ("turn",) + read_turn(words, 1, row)
    if head == "stop":
        many = word_at(words, 1, number_of, row, 0)
        return ("stop",) + read_turn(words, 2, row) + (many,)
    kinds = PARTS[head]
    parts = [word_at(words, k + 1, name_of if kinds[k] == "name" else number_of, row, 0) for k in range(len(kinds))]
    check_end(words, len(kinds) + 1, row, 0)
    return (head,) + tuple(parts)


def read_log(rows):
    """The log that a list of any strings writes."""
    return tuple([read_step(text, row=row) for row, text in enumerate(rows)])


def read_begin(words, row):
    """The step "begin" that these words write, with a word for each side."""
    record = word_at(words, 1, name_of, row, 0)
    sides = [word_at(words, 2, names_of, row, 0)]
    if len(words) > 3:
        sides.append(word_at(words, 3, names_of, row, 0))
    check_end(words, 4, row, 0)
    return ("begin", record, tuple(sides))


def read_turn(words, at, row):
    """The pair of the goals and of the plan that the words from this one on write."""
    if words[at:at + 1] == ["-"]:
        check_end(words, at + 1, row, 0)
        return ((), ())
    goals = []
    plan = []
    # There is at least one goal, if only to tell which word is missing.
    for k in range(at, max(len(words), at + 1), 5):
        goals.append(read_goal(words, k, row))
        plan.append((word_at(words, k + 3, way_of, row, 0), word_at(words, k + 4, numbers_of, row, 0)))
    return (tuple(goals), tuple(plan))


def read_goal(words, k, row):
    """The goal that three words write, from word k on."""
    record = word_at(words, k, name_of, row, 0)
    side = word_at(words, k + 1, number_of, row, 0)
    return (record, side, word_at(words, k + 2, names_of, row, 0))


def head_of(word):
    """The word that a row of a step begins with."""
    return word if is_step_word(word) else None


def name_of(word):
    """The name that a word is."""
    return word if is_name(word) else None


def names_of(word):
    """The names that a word writes, at least one, in its order."""
    names = tuple(word.split(","))
    return names if all([is_name(name) for name in names]) else None


def way_of(word):
    """The way in which a goal is met."""
    return word if word in ("on", "new") else None


def numbers_of(word):
    """The numbers that a word writes, perhaps none, in its order."""
    if word == "-":
        return ()
    numbers = tuple([number_of(digits) for digits in word.split(",")])
    return None if None in numbers else numbers
