"""Ways to a thing, shortest ones, and closed sets that show that there is none."""

from sealshelf.choosing import Choices, chosen_in
from sealshelf.openings import opened, opening_order


def way_to(keys, boxes, thing):
    """Any way from keys that leads to the thing, or None."""
    if thing in keys:
        return ()
    order = opening_order(keys, boxes)
    if thing not in [boxes[b][0] for b in order]:
        return None
    return tuple(needed_of(order, boxes, thing))


def way_among(keys, boxes, numbers, thing):
    """Any way from keys to the thing by the boxes of these numbers alone, or None."""
    way = way_to(keys, [boxes[b] for b in numbers], thing)
    return None if way is None else tuple([numbers[k] for k in way])


def needed_of(order, boxes, thing):
    """The boxes of an opening order that the thing needs, in this order."""
    wanted = {thing: True}
    needed = []
    # Going back, each thing is asked for before the one box that gives it is met.
    for b in order[::-1]:
        if boxes[b][0] in wanted:
            needed.append(b)
            for key in boxes[b][1]:
                wanted[key] = True
    return needed[::-1]


def closed_without(keys, boxes, thing):
    """Any closed set for keys and boxes without the thing, or None if it is opened."""
    closed = opened(keys, boxes)
    return None if thing in closed[0] or thing in closed[1] else closed


def shortest_way(keys, boxes, thing):
    """Any way from keys to the thing with the fewest boxes, or None."""
    choices = Choices(keys, boxes, thing)
    mask = fewest_chosen(choices, 0, None)
    if mask is None:
        return None
    numbers = chosen_in(mask)
    order = opening_order(keys, choices.chosen(mask))
    return tuple([numbers[k] for k in order])


def fewest_chosen(choices, mask, best):
    """The mask of the fewest boxes that open the thing, those of mask among them.

    If it has not fewer boxes than best, or there is none, it is best.
    """
    dues = choices.dues(mask)
    # Each thing that is due needs a box of its own.
    if best is not None and len(chosen_in(mask)) + len(dues) >= len(chosen_in(best)):
        return best
    if not dues:
        # Boxes that wait for each other in a ring are no way: each thing of a
        # shortest way has one box, and these boxes are chosen on another branch.
        return mask if choices.reaches(mask) else best
    for b in narrowest(choices, dues)[1]:
        best = fewest_chosen(choices, mask | 1 << b, best)
    return best


def narrowest(choices, dues):
    """The pair of a thing that is due and of the indexes of its boxes, as few as possible."""
    options = [(due, choices.boxes_with(due)) for due in dues]
    fewest = min([len(numbers) for _, numbers in options])
    return [option for option in options if len(option[1]) == fewest][0]


def shortest_paper(keys, boxes, thing):
    """Any shortest paper: a shortest way and a tree, or None if no way leads to the thing."""
    way = shortest_way(keys, boxes, thing)
    if way is None:
        return None
    return (way, tree_of(Choices(keys, boxes, thing), 0, len(way), {}))


def tree_of(choices, mask, left, known):
    """The tree for the boxes of mask, if left more boxes can be chosen.

    It hangs on the mask alone. So equal trees are built once and kept in known:
    the paths of a tree can be many more than its masks.
    """
    if left == 0:
        return ()
    if mask not in known:
        dues = choices.dues(mask)
        due, numbers = narrowest(choices, dues) if dues else (None, choices.leaving(mask))
        branches = [tree_of(choices, mask | 1 << b, left - 1, known) for b in numbers]
        known[mask] = (due, tuple(branches))
    return known[mask]
