"""What a group has at a moment of a history, in four ways, and since when ([38], [39])."""

from sealshelf.kinds import is_thing
from sealshelf.lyings import ShelfNow, boxes_put, check_members, check_moment, hand_at, numbers_there
from sealshelf.openings import opened, pair_of


def had(history, group, moment, word):
    """The pair (keys, texts) of what the group has at the moment in the way that word names."""
    check_members(history, group)
    check_moment(history, moment)
    if word == "remembered":
        return pair_of(memory_at(history, group, moment).steps)
    hand = hand_at(history, group, moment)
    boxes = boxes_put(history)
    if word == "logged":
        return pair_of(logged_things(hand, history[:moment], group, boxes))
    return opened(hand, [boxes[b] for b in numbers_there(history, moment, word)])


def has(history, group, moment, thing, word):
    """Whether the group has any value at the moment in this way."""
    keys, texts = had(history, group, moment, word)
    # The kind comes first, as True would be found where 1 is.
    return is_thing(thing) and (thing in keys or thing in texts)


def first_moment(history, group, thing, word):
    """The first moment at which the group has the thing in this way, or None."""
    for moment in range(len(history) + 1):
        if has(history, group, moment, thing, word):
            return moment
    return None


def gained(history, group, word):
    """The pairs (moment, thing) of all that the group has at some moment, with the first such moment."""
    seen = {}
    for moment in range(len(history) + 1):
        keys, texts = had(history, group, moment, word)
        for thing in keys + texts:
            if thing not in seen:
                seen[thing] = True
                yield (moment, thing)


def apart(history, group, moment, since):
    """The pair that the group has at the moment, if each one remembers alone until since."""
    check_members(history, group)
    check_moment(history, moment)
    check_moment(history, since)
    alone = [memory_at(history, (name,), min(moment, since)) for name in group]
    things = {thing: True for memory in alone for thing in memory.steps}
    if moment < since:
        return pair_of(things)
    shelf = ShelfNow()
    for deed in history[:since]:
        shelf.follow(deed)
    together = Memory(group)
    for thing in things:
        together.gain(thing, None, shelf)
    for deed in history[since:moment]:
        shelf.follow(deed)
        together.follow(deed, shelf)
    return pair_of(together.steps)


def logged_things(hand, deeds, group, boxes):
    """A dict of the keys of the hand and of the things of the boxes that the group opened."""
    things = {key: True for key in hand}
    for deed in deeds:
        if deed[0] == "open" and deed[1] in group:
            things[boxes[deed[2]][0]] = True
    return things


def memory_at(history, group, moment, off=()):
    """What the group remembers behind so many deeds, if puts are taken off as ShelfNow has it."""
    shelf = ShelfNow(off)
    memory = Memory(group)
    for deed in history[:moment]:
        shelf.follow(deed)
        memory.follow(deed, shelf)
    return memory


class Memory:
    """What a group remembers while deeds are done one after the other.

    steps has for each thing, in the order in which they came, the pair of the
    moment and of the put whose box it was in, None for a thing that came otherwise.
    """

    def __init__(self, group):
        self.group = group
        self.steps = {}

    def follow(self, deed, shelf):
        """Remember what comes by a deed that the shelf has followed."""
        if deed[0] == "hand" and deed[1] in self.group:
            self.gain(deed[2], None, shelf)
        if deed[0] == "leak" and "world" in self.group:
            self.gain(deed[1], None, shelf)
        if deed[0] == "put":
            b = len(shelf.puts) - 1
            if b in shelf.there and self.has_all(deed[1][1]):
                self.gain(deed[1][0], b, shelf)

    def gain(self, thing, b, shelf):
        """Remember a thing, and all that is opened with it by the boxes that lie there."""
        queue = [(thing, b)]
        at = 0
        while at < len(queue):
            got, by = queue[at]
            at += 1
            if got not in self.steps:
                self.steps[got] = (shelf.moment, by)
                opening = [c for c in shelf.boxes_with(got) if self.has_all(shelf.puts[c][1])]
                queue.extend([(shelf.puts[c][0], c) for c in opening])

    def has_all(self, keys):
        """Whether all these keys are remembered."""
        return all([key in self.steps for key in keys])
