"""The checker of turn papers ([57])."""

from sealshelf.errors import InvalidPaper
from sealshelf.goals import Facts, Turn, allowed_ways
from sealshelf.kinds import is_key, is_pair, is_tuple_of
from sealshelf.planchecker import lets_plan


def lets_turn(vault, goals, thing):
    """The number of the plan of any value that is a turn paper for the goals."""
    if not is_pair(thing) or not is_tuple_of(has_choice_shape, thing[1]):
        raise InvalidPaper("shape", -1)
    plan, choices = thing
    many = number_of_plan(vault, goals, plan)
    allowed = list(allowed_ways(vault, goals))
    if [ways for ways, _ in choices] != allowed:
        raise InvalidPaper("choices", -1)
    facts = Facts(vault)
    for c, (ways, trees) in enumerate(choices):
        check_choice(Turn(facts, goals, ways), c, trees, many)
    return many


def has_choice_shape(thing):
    """Whether it is a pair of tuples."""
    return is_pair(thing) and isinstance(thing[0], tuple) and isinstance(thing[1], tuple)


def number_of_plan(vault, goals, plan):
    """The number of any value that is a plan for the goals."""
    try:
        return lets_plan(vault, goals, plan)
    except InvalidPaper:
        raise InvalidPaper("plan", -1) from None


def check_choice(turn, c, trees, many):
    """Raise the first error of the trees of choice c, which have to show that so many boxes are needed."""
    if len(trees) != len(turn.goals):
        raise InvalidPaper("trees", c)
    if any([turn.giver[k] != k and trees[k] != () for k in turn.order]):
        raise InvalidPaper("trees", c)
    worths = []
    for k, tree in enumerate(trees):
        worths.append(NodeCheck(turn.reaching(k), (c, k)).worth(tree, turn.needing(k)))
    if None not in worths and sum(worths) + len(turn.text_boxes()) < many:
        raise InvalidPaper("few", c)


class NodeCheck:
    """The check of the nodes of one tree: whom tells whom each key reaches, place is (c, k)."""

    def __init__(self, whom, place):
        self.whom = whom
        self.place = place
        self.seen = 0

    def worth(self, node, waiting):
        """The worth of a tree for those who are waiting to be reached, None if it is endless."""
        at = self.place + (self.seen,)
        self.seen += 1
        if node == ():
            return 0
        if not self.is_node(node, waiting):
            raise InvalidPaper("node", at)
        worths = []
        for key, tree in node[1]:
            others = [name for name in waiting if name not in self.whom[key]]
            worths.append(self.worth(tree, others))
        ended = [one for one in worths if one is not None]
        return min(ended) + 1 if ended else None

    def is_node(self, node, waiting):
        """Whether it names somebody who is waiting, with a branch for each key that reaches them."""
        if not is_pair(node) or node[0] not in waiting or not is_tuple_of(is_branch, node[1]):
            return False
        return [key for key, _ in node[1]] == [key for key in self.whom if node[0] in self.whom[key]]


def is_branch(thing):
    """Whether it is a pair of a key and of any value."""
    return is_pair(thing) and is_key(thing[0])
