"""Readings of written forms ([21]): what a string writes, or InvalidText.

Each function that takes a word returns None if it is not the written form of
what is due.
"""

from sealshelf.errors import InvalidText
from sealshelf.kinds import ascends, is_box, is_holder, is_name

MOST_DIGITS = 60


def read_thing(text, *, row=0, field=0):
    """The thing that a text of one word writes."""
    return only_word(text, thing_of, row, field)


def read_keys(text, *, row=0, field=0):
    """The keys that a text of one word writes."""
    return only_word(text, keys_of, row, field)


def read_box(text, *, row=0, field=0):
    """The box that a text of one word writes."""
    return only_word(text, box_of, row, field)


def read_boxes(text, *, row=0, field=0):
    """The boxes that a line writes."""
    words = text.split(" ")
    if words[0] == "-":
        check_end(words, 1, row, field)
        return ()
    return tuple([word_at(words, k, box_of, row, field) for k in range(len(words))])


def read_shelf(text):
    """The shelf that a string of lines writes."""
    lines = text.split("\n")
    boxes = read_boxes(lines[0])
    hands = []
    for row in range(1, len(lines)):
        before = hands[-1][0] if hands else ""
        hands.append(read_hand(lines[row], row, before))
    return (tuple(hands), boxes)


def read_hand(line, row, before):
    """The hand that a line writes, whose holder has to be greater than the one before."""
    words = line.split(" ")
    holder = word_at(words, 0, holder_of, row, 0)
    if holder <= before:
        raise InvalidText(row, 0)
    keys = word_at(words, 1, keys_of, row, 0)
    check_end(words, 2, row, 0)
    return (holder, keys)


def only_word(text, read, row, field):
    """What read makes of the one word that the text consists of."""
    words = text.split(" ")
    value = word_at(words, 0, read, row, field)
    check_end(words, 1, row, field)
    return value


def word_at(words, k, read, row, field):
    """What read makes of word k, or InvalidText, also if there is no such word."""
    value = read(words[k]) if k < len(words) else None
    if value is None:
        raise InvalidText(row, field + k)
    return value


def check_end(words, many, row, field):
    """Raise InvalidText if there are more words than so many."""
    if len(words) > many:
        raise InvalidText(row, field + many)


def number_of(word):
    """The number that a word writes: its digits, without leading zeros."""
    if not 1 <= len(word) <= MOST_DIGITS:
        return None
    if not all(["0" <= digit <= "9" for digit in word]):
        return None
    return None if word[0] == "0" and word != "0" else int(word)


def holder_of(word):
    """The holder whose name a word is."""
    return word if is_holder(word) else None


def thing_of(word):
    """The key or the text that a word writes."""
    name, dot, digits = word.partition(".")
    if not dot:
        return number_of(word)
    number = number_of(digits)
    return None if number is None or not is_name(name) else (name, number)


def keys_of(word):
    """The keys that a word writes, perhaps none."""
    if word == "-":
        return ()
    keys = tuple([number_of(digits) for digits in word.split(",")])
    return None if None in keys or not ascends(keys) else keys


def box_of(word):
    """The box that a word writes."""
    name, _, digits = word.partition(":")
    box = (thing_of(name), keys_of(digits))
    return box if is_box(box) else None
