"""Plans with the fewest boxes for turns, and papers that show it ([54], [56], [57])."""

from sealshelf.goals import Facts, Turn, allowed_ways
from sealshelf.planchecker import lets_plan


def fewest_turn(vault, goals):
    """Any plan with the least number, or None if there is no plan."""
    best = None
    least = None
    facts = Facts(vault)
    for ways in allowed_ways(vault, goals):
        turn = Turn(facts, goals, ways)
        chosen = [fewest_keys(turn.needing(k), turn.reaching(k)) for k in range(len(goals))]
        if None not in chosen:
            many = sum([len(keys) for keys in chosen]) + len(turn.text_boxes())
            if least is None or many < least:
                least = many
                best = tuple([(ways[k], chosen[k]) for k in range(len(goals))])
    return best


def fewest_keys(needing, reaching):
    """The ascending tuple of the fewest keys that reach all who have to be reached, or None."""
    fewest = {(): ()}
    for key, names in reaching.items():
        # Those who are reached without this key, with the fewest keys for them.
        without = list(fewest.items())
        for reached, keys in without:
            more = tuple([name for name in needing if name in reached or name in names])
            if more not in fewest or len(fewest[more]) > len(keys) + 1:
                fewest[more] = keys + (key,)
    return fewest.get(tuple(needing))


def turn_paper(vault, goals):
    """Any turn paper for the goals, or None if there is no plan."""
    plan = fewest_turn(vault, goals)
    if plan is None:
        return None
    many = lets_plan(vault, goals, plan)
    facts = Facts(vault)
    turns = [Turn(facts, goals, ways) for ways in allowed_ways(vault, goals)]
    return (plan, tuple([(turn.ways, trees_for(turn, many)) for turn in turns]))


def trees_for(turn, many):
    """A tree for each goal, their worths with the boxes with texts at least so many."""
    left = max(many - len(turn.text_boxes()), 0)
    trees = []
    for k in range(len(turn.goals)):
        needing, reaching = turn.needing(k), turn.reaching(k)
        keys = fewest_keys(needing, reaching)
        # A tree is not grown beyond what is left to show.
        worth = left if keys is None else min(len(keys), left)
        trees.append(tree_for(needing, reaching, worth))
        left -= worth
    return tuple(trees)


def tree_for(waiting, reaching, worth):
    """A tree for those who are waiting to be reached, of this worth, or endless.

    It names a holder whom the fewest keys reach: so it stays small, and is
    endless at once where nobody reaches somebody.
    """
    if worth == 0 or not waiting:
        return ()
    options = [(name, [key for key in reaching if name in reaching[key]]) for name in waiting]
    fewest = min([len(keys) for _, keys in options])
    holder, keys = [option for option in options if len(option[1]) == fewest][0]
    branches = []
    for key in keys:
        others = [name for name in waiting if name not in reaching[key]]
        branches.append((key, tree_for(others, reaching, worth - 1)))
    return (holder, tuple(branches))
