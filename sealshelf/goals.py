"""Goals of turns, the ways in which they are met, and which keys reach whom ([8], [53])."""

from sealshelf.choosing import is_part
from sealshelf.havings import had, has
from sealshelf.kinds import ascends, is_name, is_number, is_tuple_of
from sealshelf.lyings import boxes_put, lying
from sealshelf.vaultfacts import holders_in, is_good, is_kept, outside, record_in


def are_goals(vault, thing):
    """Whether any value is goals of the vault."""
    if not is_tuple_of(has_goal_shape, thing) or not ascends([record for record, _, _ in thing]):
        return False
    return all([is_goal(vault, goal) for goal in thing])


def has_goal_shape(thing):
    """Whether it is a triple of a name, of a number and of names, at least one."""
    if not isinstance(thing, tuple) or len(thing) != 3:
        return False
    return is_name(thing[0]) and is_number(thing[1]) and is_tuple_of(is_name, thing[2]) and len(thing[2]) > 0


def is_goal(vault, goal):
    """Whether it is a goal of the vault, if it is one by its shape."""
    record, side, due = goal
    found = record_in(vault, record)
    if found is None or side >= len(found[1]):
        return False
    readers = found[1][side][0]
    if not ascends(due) or not all([name in holders_in(vault) for name in due]):
        return False
    if not all([reader in due for reader in readers]):
        return False
    comes = len(due) > len(readers)
    return not comes or not found[2] or others_are_good(vault, record, side)


def others_are_good(vault, record, side):
    """Whether the leads of all other sides of the record are good."""
    _, sides, _ = record_in(vault, record)
    return all([is_good(vault, record, s) for s in range(len(sides)) if s != side])


def may_stay(vault, goal):
    """Whether a goal may be met by "on"."""
    record, side, due = goal
    _, sides, texts = record_in(vault, record)
    leads = [lead for _, lead in sides]
    if leads[side] is None or not is_kept(vault, leads[side], due) or leads_of_all(vault).count(leads[side]) > 1:
        return False
    # Who is handed the lead has all that was ever sealed with it.
    sealed = [box for box in boxes_put(vault[3]) if leads[side] in box[1]]
    if not all([texts and box == text_box(record, texts, leads) for box in sealed]):
        return False
    history = vault[3]
    have_it = all([has(history, (name,), len(history), leads[side], "now") for name in due])
    return not sealed or have_it or others_are_good(vault, record, side)


def allowed_ways(vault, goals):
    """All tuples of allowed ways, ascending."""
    stay = [may_stay(vault, goal) for goal in goals]
    many = len(goals)
    for mask in range(1 << many):
        # The first goal has the highest bit, so that the tuples ascend with the masks.
        met_on = [mask >> (many - 1 - k) & 1 == 1 for k in range(many)]
        if all([stay[k] for k in range(many) if met_on[k]]):
            yield tuple(["on" if one else "new" for one in met_on])


def leads_of_all(vault):
    """The list of the leads of all sides of all records."""
    return [lead for _, sides, _ in vault[2] for _, lead in sides]


def text_box(record, texts, leads):
    """The box with the newest text of a record for these leads; none that anyone has put if a lead is None."""
    if None in leads:
        return None
    return ((record, len(texts) - 1), tuple(sorted(set(leads))))


class Facts:
    """What turns ask of a vault again and again."""

    def __init__(self, vault):
        self.vault = vault
        history = vault[3]
        self.now = {name: had(history, (name,), len(history), "now")[0] for name in holders_in(vault)}
        self.copied = {}

    def having(self, key, names):
        """The tuple of those of some holders who have the key now."""
        return tuple([name for name in names if key in self.now[name]])

    def keeps(self, key, names):
        """Whether the key is kept for these holders."""
        if names not in self.copied:
            self.copied[names] = outside(self.vault, names)[0]
        return key not in self.copied[names]

    def keys_kept(self, names):
        """A dict: for each key that some of these holders have now, and that is kept for them, who they are."""
        found = {}
        for key in sorted({key for name in names for key in self.now[name]}):
            having = self.having(key, names)
            if self.keeps(key, having):
                found[key] = having
        return found


class Turn:
    """A turn for goals by fixed ways ([8]). Goals are named by their indexes.

    order is the order of doing, lead has the lead of each goal behind the turn,
    giver the goal that has the boxes of this lead, and after is what next is
    behind the turn.
    """

    def __init__(self, facts, goals, ways):
        self.facts = facts
        self.goals = goals
        self.ways = ways
        self.order = [k for _, _, _, k in sorted([(len(due), due, ways[k] != "on", k)
                                                  for k, (_, _, due) in enumerate(goals)])]
        self.after = facts.vault[0]
        self.lead = {}
        self.giver = {}
        shared = {}
        for k in self.order:
            record, side, due = goals[k]
            if ways[k] == "on":
                self.giver[k] = k
                self.lead[k] = record_in(facts.vault, record)[1][side][1]
            elif due in shared:
                self.giver[k] = shared[due]
                self.lead[k] = self.lead[shared[due]]
            else:
                shared[due] = k
                self.giver[k] = k
                self.lead[k] = self.after
                self.after += 1

    def needing(self, k):
        """The list of those of due who have to be reached by boxes of goal k itself."""
        if self.giver[k] != k:
            return []
        due = self.goals[k][2]
        having = self.facts.having(self.lead[k], due)
        return [name for name in due if name not in having]

    def reaching(self, k):
        """A dict: for each key that reaches somebody of due, ascending, the tuple of whom it reaches."""
        staying = [self.lead[j] for j in self.order if self.ways[j] == "on"]
        kept = self.facts.keys_kept(self.goals[k][2])
        whom = {key: kept[key] for key in kept if key not in staying}
        for j in self.order:
            if self.passes_on(j, k):
                whom[self.lead[j]] = self.goals[j][2]
        return {key: whom[key] for key in sorted(whom)}

    def passes_on(self, j, k):
        """Whether the lead of goal j, which is done before, reaches its due for goal k."""
        due, wider = self.goals[j][2], self.goals[k][2]
        return is_part(due, wider) or due == wider and self.ways[j] == "on" and self.ways[k] == "new"

    def coming(self, k):
        """The list of those who come to the goals with the lead of goal k."""
        found = []
        for j, (record, side, due) in enumerate(self.goals):
            if self.giver[j] == self.giver[k]:
                readers = record_in(self.facts.vault, record)[1][side][0]
                found.extend([name for name in due if name not in readers])
        return found

    def text_boxes(self):
        """The list of the boxes with texts that are put, by record."""
        vault = self.facts.vault
        boxes = boxes_put(vault[3])
        there = [boxes[b] for b in lying(vault[3], len(vault[3]))]
        found = []
        for k, (record, side, due) in enumerate(self.goals):
            _, sides, texts = record_in(vault, record)
            leads = [self.lead[k] if s == side else lead for s, (_, lead) in enumerate(sides)]
            if texts and len(due) > len(sides[side][0]) and text_box(record, texts, leads) not in there:
                found.append(text_box(record, texts, leads))
        return found
