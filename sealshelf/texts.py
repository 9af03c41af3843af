"""Written forms of things, keys, boxes and shelves ([20])."""

from sealshelf.kinds import is_key


def thing_text(thing):
    """A key as its digits, a text as RECORD.NUMBER."""
    return str(thing) if is_key(thing) else f"{thing[0]}.{thing[1]}"


def keys_text(keys):
    """The digits of the keys with commas between them, or - if there are none."""
    return ",".join([str(key) for key in keys]) if keys else "-"


def box_text(box):
    """A box as THING:KEYS."""
    return f"{thing_text(box[0])}:{keys_text(box[1])}"


def boxes_text(boxes):
    """A line of boxes with single spaces between them, or - if there are none."""
    return " ".join([box_text(box) for box in boxes]) if boxes else "-"


def shelf_text(shelf):
    """The line of the boxes, then a line for each hand."""
    hands, boxes = shelf
    lines = [f"{holder} {keys_text(keys)}" for holder, keys in hands]
    return "\n".join([boxes_text(boxes)] + lines)
