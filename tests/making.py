"""Inputs for the tests: from seeded generators, and values changed at one place."""

import random

WRONG = (True, False, None, -1, 0, 1, 7, 10 ** 59, "", "a", "memo", "world", "Ann", "toolongname", (), [], (1,), [1],
         (2, 1), (1, 1), ("memo", 0), ("memo", True), ["memo", 0], ((),), (None, ()), ((), ()), (0, (1,)), "1\n")


def deep(many):
    """A value nested so deep."""
    value = ()
    for k in range(many):
        value = (value,) if k % 2 else [value]
    return value


def variants(value):
    """The value changed at one place, in every place and many ways."""
    yield from WRONG
    yield deep(40)
    if isinstance(value, tuple):
        yield list(value)
        yield value + (value[-1] if value else 0,)
        for k in range(len(value)):
            yield value[:k] + value[k + 1:]
            if k:
                yield value[:k - 1] + (value[k], value[k - 1]) + value[k + 1:]
            for one in variants(value[k]):
                yield value[:k] + (one,) + value[k + 1:]


def some_boxes(rng, many, keys, texts=2):
    """Boxes over few keys, so that rings, equal ones and useless ones are frequent."""
    boxes = []
    for _ in range(many):
        thing = ("memo", rng.randrange(texts)) if rng.random() < 0.3 else rng.randrange(keys)
        others = [key for key in range(keys + 1) if key != thing]
        needed = rng.sample(others, min(len(others), rng.choice((1, 1, 1, 2, 2, 3))))
        boxes.append((thing, tuple(sorted(needed))))
    if boxes and rng.random() < 0.3:
        boxes[-1] = boxes[0]
    return tuple(boxes)


def some_case(seed, many=6, keys=4):
    """A tuple (keys, boxes, thing)."""
    rng = random.Random(seed)
    begin = tuple(sorted(rng.sample(range(keys), rng.randrange(3))))
    thing = rng.choice((("memo", 0), ("memo", 0), ("memo", 1), rng.randrange(keys + 1)))
    return (begin, some_boxes(rng, rng.randrange(many + 1), keys), thing)


def some_shelf(seed, many=6, keys=4, most=5):
    """A shelf with up to so many holders."""
    rng = random.Random(seed)
    names = ("ann", "bob", "cy", "dee", "eve", "fay")[:rng.randrange(most + 1)]
    hands = tuple((name, tuple(sorted(rng.sample(range(keys), rng.choice((0, 1, 1, 2)))))) for name in names)
    return (hands, some_boxes(rng, rng.randrange(many + 1), keys))


def told(call, *arguments, **named):
    """What a call returns, or the attributes of the error that it raises, with the error's name."""
    try:
        return call(*arguments, **named)
    except ValueError as error:
        return (type(error).__name__, *vars(error).values())


def some_demands(seed, shelf, most=4):
    """Demands of a shelf, perhaps none, equal ones, and some that are met by no boxes."""
    rng = random.Random(seed)
    holders = tuple(holder for holder, _ in shelf[0])
    demands = []
    for _ in range(rng.randrange(most + 1)):
        some = tuple(sorted(rng.sample(holders, rng.randrange(len(holders) + 1))))
        demands.append((some, rng.choice((("memo", 0), ("memo", 1), 0, 1, 2, 3))))
    if demands and rng.random() < 0.2:
        demands.append(demands[0])
    return tuple(demands)
