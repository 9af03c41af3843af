"""What is opened from keys by boxes."""

from sealshelf.kinds import is_key


def opened(keys, boxes):
    """The pair (keys, texts) of all things that are opened."""
    return pair_of(things_opened(keys, boxes))


def opens(keys, boxes, thing):
    """Whether the thing is opened."""
    return thing in things_opened(keys, boxes)


def openable(keys, boxes):
    """The ascending tuple of the indexes of the boxes all of whose keys are among these."""
    there = {key: True for key in keys}
    return tuple([b for b, box in enumerate(boxes) if all([key in there for key in box[1]])])


def things_opened(keys, boxes):
    """The things that are opened, as a dict of True: first the keys, then in the order of opening."""
    things = {key: True for key in keys}
    for b in opening_order(keys, boxes):
        things[boxes[b][0]] = True
    return things


def opening_order(keys, boxes):
    """The indexes of boxes that can be opened one after the other, each with a thing that is new."""
    waiting = boxes_by_key(boxes)
    missing = [len(needed) for _, needed in boxes]
    there = {key: True for key in keys}
    queue = list(there)
    order = []
    at = 0
    while at < len(queue):
        got = queue[at]
        for b in waiting.get(got, []):
            missing[b] -= 1
            if missing[b] == 0 and boxes[b][0] not in there:
                there[boxes[b][0]] = True
                queue.append(boxes[b][0])
                order.append(b)
        at += 1
    return order


def pair_of(things):
    """The pair (keys, texts) of ascending tuples that a dict of things makes."""
    keys = [thing for thing in things if is_key(thing)]
    texts = [thing for thing in things if not is_key(thing)]
    return (tuple(sorted(keys)), tuple(sorted(texts)))


def boxes_by_key(boxes):
    """A dict: for each key the indexes of the boxes that have it among their keys."""
    waiting = {}
    for b, (_, needed) in enumerate(boxes):
        for key in needed:
            waiting.setdefault(key, []).append(b)
    return waiting
