"""Steps, soundness, goals, plans and turns once more, as plainly as possible ([7], [8], [49] to [59])."""

import random
from itertools import combinations, product

from tests.naive import closure, goes_up, is_name, is_number, is_row, is_text, parts_of
from tests.naivetimes import had, hand, puts, there
from tests.naivevaults import exposed, is_good, is_names, outside, others, texts_of

FRESH = (0, (), (), ())


def names_of(vault):
    return [name for name, _ in vault[1]]


def now(vault, *group):
    """The set of what a group has now."""
    return had(vault[3], group, len(vault[3]), "now")


def records_of(vault):
    """A dict: for each record its sides and its texts."""
    return {record: (sides, texts) for record, sides, texts in vault[2]}


def with_records(vault, records):
    """The vault with other records, given as such a dict."""
    return vault[:2] + (tuple((record, *records[record]) for record in sorted(records)), vault[3])


def stepped(vault, step):
    """The vault behind a step of [49], or the word that bars it."""
    word, *rest = step
    return {"come": come, "begin": begin, "go": go, "leak": leak, "renew": renew, "look": look, "take": take,
            "write": write}[word](vault, *rest)


def own_key(vault, holder):
    holders = {**dict(vault[1]), holder: vault[0]}
    return (vault[0] + 1, tuple(sorted(holders.items())), vault[2], vault[3] + (("hand", holder, vault[0]),))


def is_one_of(value, names):
    return type(value) is str and value in names


def come(vault, holder):
    if not is_name(holder) or holder == "world":
        return "name"
    return "there" if holder in names_of(vault) else own_key(vault, holder)


def begin(vault, record, sides):
    if not is_name(record):
        return "name"
    if record in records_of(vault):
        return "there"
    for side in sides:
        if not is_names(side) or not side or not goes_up(side) or not set(side) <= set(names_of(vault)):
            return "sides"
    if len(sides) not in (1, 2):
        return "sides"
    return with_records(vault, {**records_of(vault), record: (tuple((side, None) for side in sides), ())})


def go(vault, record, side, holder):
    if not is_one_of(record, records_of(vault)):
        return "record"
    sides, texts = records_of(vault)[record]
    if type(side) is not int or side not in range(len(sides)):
        return "side"
    if not is_one_of(holder, sides[side][0]):
        return "reader"
    if len(sides[side][0]) == 1:
        return "last"
    rest = tuple(name for name in sides[side][0] if name != holder)
    sides = tuple((rest, lead) if s == side else (readers, lead) for s, (readers, lead) in enumerate(sides))
    return with_records(vault, {**records_of(vault), record: (sides, texts)})


def leak(vault, key):
    if type(key) is not int or key not in range(vault[0]):
        return "key"
    return vault[:3] + (vault[3] + (("leak", key),),)


def renew(vault, holder):
    return own_key(vault, holder) if is_one_of(holder, names_of(vault)) else "holder"


def look(vault, holder, b):
    if not is_one_of(holder, names_of(vault)):
        return "holder"
    if type(b) is not int or b not in there(vault[3], len(vault[3])):
        return "box"
    if not set(puts(vault[3])[b][1]) <= had(vault[3], (holder,), len(vault[3]), "remembered"):
        return "keys"
    return vault[:3] + (vault[3] + (("open", holder, b),),)


def take(vault, b):
    if type(b) is not int or b not in there(vault[3], len(vault[3])):
        return "box"
    behind = vault[:3] + (vault[3] + (("take", b),),)
    if not is_open(behind):
        return "open"
    for record, sides, _ in vault[2]:
        for readers, lead in sides:
            for reader in readers:
                if lead in now(vault, reader) and lead not in now(behind, reader):
                    return "lead"
    return behind


def write(vault, record):
    if not is_one_of(record, records_of(vault)):
        return "record"
    sides, texts = records_of(vault)[record]
    if not all(is_good(vault, record, s) for s in range(len(sides))):
        return "lead"
    box = ((record, len(texts)), tuple(sorted({lead for _, lead in sides})))
    texts += (tuple(readers for readers, _ in sides),)
    return with_records(vault, {**records_of(vault), record: (sides, texts)})[:3] + (vault[3] + (("put", box),),)


def is_open(vault):
    """Each group that has a present reader of each side is asked, not only the least ones."""
    for record, (sides, texts) in records_of(vault).items():
        for group in parts_of(names_of(vault)):
            if texts and all(set(group) & set(readers) for readers, _ in sides):
                if (record, len(texts) - 1) not in now(vault, *group):
                    return False
    return True


def is_shut(vault):
    lost = exposed(vault)
    return not any(text in outside(vault, readers) for text, sides in texts_of(vault).items() if text not in lost
                   for readers in sides)


def is_sound(vault):
    return is_open(vault) and is_shut(vault)


def sound_error(vault, value):
    """The first error of a sound paper as (word, at), or its two numbers in a list."""
    if type(value) is not tuple or len(value) != 2 or type(value[0]) is not tuple or type(value[1]) is not tuple:
        return ("shape", -1)
    opens = [((record, len(texts) - 1), choice) for record, (sides, texts) in sorted(records_of(vault).items()) if texts
             for choice in product(*[readers for readers, _ in sides])]
    shuts = [(text, readers) for text, sides in sorted(texts_of(vault).items()) if text not in exposed(vault)
             for readers in sides]
    for k, due in enumerate((opens, shuts)):
        if len(value[k]) != len(due):
            return ("many", k)
    for k, (text, choice) in enumerate(opens):
        if not is_way(vault, choice, text, value[0][k]):
            return ("way", k)
    for k, (text, readers) in enumerate(shuts):
        if not is_closed(hand(vault[3], others(vault, readers), len(vault[3])), puts(vault[3]), text, value[1][k]):
            return ("closed", k)
    return [len(opens), len(shuts)]


def is_way(vault, group, text, value):
    if not is_row(value, is_number):
        return False
    things = hand(vault[3], group, len(vault[3]))
    for b in value:
        if b not in there(vault[3], len(vault[3])) or not set(puts(vault[3])[b][1]) <= things:
            return False
        things.add(puts(vault[3])[b][0])
    return text in things


def is_closed(keys, boxes, text, value):
    if type(value) is not tuple or len(value) != 2 or not is_row(value[0], is_number) or not is_row(value[1], is_text):
        return False
    things = set(value[0]) | set(value[1])
    if not goes_up(value[0]) or not goes_up(value[1]) or not keys <= things or text in things:
        return False
    return closure(things, boxes) == things


def are_goals(vault, value):
    if type(value) is not tuple:
        return False
    for goal in value:
        if type(goal) is not tuple or len(goal) != 3 or not is_one_of(goal[0], records_of(vault)):
            return False
        record, side, due = goal
        sides, texts = records_of(vault)[record]
        if type(side) is not int or side not in range(len(sides)):
            return False
        if not is_names(due) or not goes_up(due) or not set(sides[side][0]) <= set(due) <= set(names_of(vault)):
            return False
        if set(due) != set(sides[side][0]) and texts and not others_good(vault, record, side):
            return False
    return goes_up([record for record, _, _ in value])


def others_good(vault, record, side):
    return all(is_good(vault, record, s) for s in range(len(records_of(vault)[record][0])) if s != side)


def may_stay(vault, goal):
    record, side, due = goal
    sides, texts = records_of(vault)[record]
    lead = sides[side][1]
    if lead is None or lead in outside(vault, due):
        return False
    for other, (rows, _) in records_of(vault).items():
        for s, (_, one) in enumerate(rows):
            if one == lead and (other, s) != (record, side):
                return False
    sealed = [box for box in puts(vault[3]) if lead in box[1]]
    for thing, keys in sealed:
        if not texts or thing != (record, len(texts) - 1) or set(keys) != {one for _, one in sides}:
            return False
    if sealed and any(lead not in now(vault, name) for name in due):
        return others_good(vault, record, side)
    return True


def allowed_ways(vault, goals):
    return [ways for ways in product(("new", "on"), repeat=len(goals))
            if all(way == "new" or may_stay(vault, goal) for way, goal in zip(ways, goals))]


class Doing:
    """A turn by fixed ways: the order of doing, the leads behind it, and who reaches whom."""

    def __init__(self, vault, goals, ways):
        self.vault, self.goals, self.ways = vault, goals, ways
        self.order = sorted(range(len(goals)), key=lambda k: (len(goals[k][2]), goals[k][2], ways[k] == "new", goals[k][0]))
        self.leads = {}
        self.next = vault[0]
        self.sharing = set()
        for k in self.order:
            if ways[k] == "on":
                self.leads[k] = records_of(vault)[goals[k][0]][0][goals[k][1]][1]
                continue
            same = [j for j in self.leads if ways[j] == "new" and goals[j][2] == goals[k][2]]
            if same:
                self.leads[k] = self.leads[same[0]]
                self.sharing.add(k)
            else:
                self.leads[k] = self.next
                self.next += 1

    def needed(self, k):
        """Those of due who have to be reached."""
        return [name for name in self.goals[k][2] if self.leads[k] not in now(self.vault, name)]

    def reached(self, k, key):
        """Those whom a key reaches for goal k."""
        due = set(self.goals[k][2])
        if key < self.vault[0] and not any(self.leads[j] == key and self.ways[j] == "on" for j in self.leads):
            having = {name for name in due if key in now(self.vault, name)}
            return set() if key in outside(self.vault, having) else having
        for j in self.order[:self.order.index(k)]:
            wide = set(self.goals[j][2])
            if self.leads[j] == key and (wide < due or wide == due and self.ways[j] == "on" and self.ways[k] == "new"):
                return wide
        return set()

    def comers(self, k):
        """Those who come to a goal with the lead of goal k."""
        return {name for j in self.leads if self.leads[j] == self.leads[k] for name in self.goals[j][2]
                if name not in self.side(j)[0]}

    def side(self, k):
        return records_of(self.vault)[self.goals[k][0]][0][self.goals[k][1]]

    def texts(self):
        """The boxes with texts that are put."""
        lying = [puts(self.vault[3])[b] for b in there(self.vault[3], len(self.vault[3]))]
        found = []
        for k, (record, side, due) in enumerate(self.goals):
            sides, texts = records_of(self.vault)[record]
            leads = {self.leads[k] if s == side else lead for s, (_, lead) in enumerate(sides)}
            if texts and set(due) - set(sides[side][0]):
                box = ((record, len(texts) - 1), tuple(sorted(leads)))
                if box not in lying:
                    found.append(box)
        return found


def plan_error(vault, goals, value):
    """The first error of a plan as (word, at), or its number."""
    def entry(one):
        return type(one) is tuple and len(one) == 2 and type(one[0]) is str and is_row(one[1], is_number)

    if not is_row(value, entry):
        return ("shape", -1)
    if len(value) != len(goals):
        return ("many", -1)
    for k, (word, _) in enumerate(value):
        if word not in ("on", "new"):
            return ("word", k)
        if word == "on" and not may_stay(vault, goals[k]):
            return ("on", k)
    doing = Doing(vault, goals, [word for word, _ in value])
    for k in doing.order:
        keys = value[k][1]
        if not goes_up(keys) or k in doing.sharing and keys != ():
            return ("keys", k)
        if k in doing.sharing:
            continue
        needed = doing.needed(k)
        for j, key in enumerate(keys):
            if not doing.reached(k, key) & set(needed):
                return ("key", (k, j))
        for i, name in enumerate(goals[k][2]):
            if name in needed and not any(name in doing.reached(k, key) for key in keys):
                return ("reach", (k, i))
    return sum(len(keys) for _, keys in value) + len(doing.texts())


def all_plans(vault, goals, most=3):
    """All plans with at most so many keys for each goal."""
    keys = range(vault[0] + len(goals))
    rows = [part for many in range(most + 1) for part in combinations(keys, many)]
    for ways in product(("on", "new"), repeat=len(goals)):
        for chosen in product(rows, repeat=len(goals)):
            plan = tuple(zip(ways, chosen))
            if isinstance(plan_error(vault, goals, plan), int):
                yield plan


def turn_error(vault, goals, value):
    """The first error of a turn paper as (word, at), or the number of its plan."""
    if type(value) is not tuple or len(value) != 2 or type(value[1]) is not tuple:
        return ("shape", -1)
    for one in value[1]:
        if type(one) is not tuple or len(one) != 2 or type(one[0]) is not tuple or type(one[1]) is not tuple:
            return ("shape", -1)
    many = plan_error(vault, goals, value[0])
    if isinstance(many, tuple):
        return ("plan", -1)
    if [ways for ways, _ in value[1]] != allowed_ways(vault, goals):
        return ("choices", -1)
    for c, (ways, trees) in enumerate(value[1]):
        doing = Doing(vault, goals, ways)
        if len(trees) != len(goals) or any(trees[k] != () for k in doing.sharing):
            return ("trees", c)
        total = len(doing.texts())
        for k in range(len(goals)):
            for n, (node, path) in enumerate(nodes_of(trees[k])):
                if not is_node(doing, k, node, path):
                    return ("node", (c, k, n))
            total += worth(trees[k])
        if total < many:
            return ("few", c)
    return many


def nodes_of(tree, path=()):
    """All nodes of a tree with the keys on the way to them, each ahead of its branches, as far as it has any."""
    yield tree, path
    if type(tree) is tuple and len(tree) == 2 and type(tree[1]) is tuple:
        for branch in tree[1]:
            if type(branch) is tuple and len(branch) == 2:
                yield from nodes_of(branch[1], path + branch[:1])


def is_node(doing, k, node, path):
    if type(node) is not tuple or len(node) not in (0, 2):
        return False
    if node == ():
        return True
    holder, branches = node
    keys = range(doing.next)
    if holder not in doing.needed(k) or any(holder in doing.reached(k, key) for key in path):
        return False
    if not is_row(branches, lambda one: type(one) is tuple and len(one) == 2 and is_number(one[0])):
        return False
    return [key for key, _ in branches] == [key for key in keys if holder in doing.reached(k, key)]


def worth(tree):
    """The worth of a tree; infinity for an endless one."""
    return 1 + min([worth(branch) for _, branch in tree[1]], default=float("inf")) if tree else 0


def fewest(vault, goals):
    """The least number of a plan, each goal tried by itself, or None."""
    numbers = []
    for ways in allowed_ways(vault, goals):
        doing = Doing(vault, goals, ways)
        many = len(doing.texts())
        for k in set(range(len(goals))) - doing.sharing:
            rows = {frozenset(doing.reached(k, key)) & set(doing.needed(k)) for key in range(doing.next)} - {frozenset()}
            sizes = [len(part) for part in parts_of(rows) if set(doing.needed(k)) <= set().union(*part)]
            many = many + min(sizes) if sizes and many is not None else None
        if many is not None:
            numbers.append(many)
    return min(numbers, default=None)


def stops(vault, goals, plan):
    """The vaults behind each box of a turn; of a turn that puts no box, the one behind it alone."""
    doing = Doing(vault, goals, [word for word, _ in plan])
    first, last = [], []
    for k in doing.order:
        for key in plan[k][1]:
            (last if doing.reached(k, key) & doing.comers(k) else first).append((doing.leads[k], (key,)))
    boxes = first + doing.texts() + last
    early = len(boxes) - len(last)
    found = []
    for many in range(1, len(boxes) + 1) if boxes else [0]:
        one = (doing.next, vault[1], vault[2], vault[3] + tuple(("put", box) for box in boxes[:many]))
        if many >= max(early, 1) or not boxes:
            one = with_new_readers(one, doing)
        if many == len(boxes):
            one = with_new_leads(one, doing)
        found.append(one)
    return found


def with_new_readers(vault, doing):
    records = records_of(vault)
    for k, (record, side, due) in enumerate(doing.goals):
        sides, texts = records[record]
        more = {name for name in due if doing.leads[k] in now(vault, name)}
        readers = tuple(sorted({*sides[side][0], *more}))
        sides = sides[:side] + ((readers, sides[side][1]),) + sides[side + 1:]
        if texts:
            newest = texts[-1][:side] + (tuple(sorted({*texts[-1][side], *more})),) + texts[-1][side + 1:]
            texts = texts[:-1] + (newest,)
        records[record] = (sides, texts)
    return with_records(vault, records)


def with_new_leads(vault, doing):
    records = records_of(vault)
    for k, (record, side, _) in enumerate(doing.goals):
        sides, texts = records[record]
        records[record] = (sides[:side] + ((sides[side][0], doing.leads[k]),) + sides[side + 1:], texts)
    return with_records(vault, records)


def some_goals(rng, vault, most=3):
    """Goals of the vault, often with comers, equal due and due within due; perhaps none."""
    names = names_of(vault)
    goals = []
    pool = [tuple(sorted(rng.sample(names, rng.randrange(len(names) + 1)))) for _ in range(2)]
    many = rng.choice((0, *range(1, most + 1), *range(1, most + 1)))
    for record, sides, _ in rng.sample(vault[2], min(len(vault[2]), many)):
        side = rng.randrange(len(sides))
        readers = sides[side][0]
        due = tuple(sorted({*readers, *rng.choice((readers, readers, *pool, *pool))}))
        goals.append((record, side, due))
    return tuple(sorted(goals))


def due_goals(vault):
    """The due goals."""
    return tuple([(record, s, readers) for s, (readers, _) in enumerate(sides) if not is_good(vault, record, s)][0]
                 for record, sides, _ in vault[2] if not all(is_good(vault, record, s) for s in range(len(sides))))


def some_plan(rng, vault, goals):
    """Any plan for the goals, often not with the fewest boxes, or None."""
    ways = rng.choice(allowed_ways(vault, goals))
    doing = Doing(vault, goals, ways)
    plan = {}
    for k in range(len(goals)):
        needed = set(doing.needed(k)) if k not in doing.sharing else set()
        keys = [key for key in range(doing.next) if doing.reached(k, key) & needed]
        rng.shuffle(keys)
        chosen = []
        while keys and (needed - set().union(*[doing.reached(k, key) for key in chosen]) or rng.random() < 0.15):
            chosen.append(keys.pop())
        if needed - set().union(*[doing.reached(k, key) for key in chosen]):
            return None
        plan[k] = (ways[k], tuple(sorted(chosen)))
    return tuple(plan[k] for k in range(len(goals)))


def led(seed, many=25, names=("ann", "bob", "cy", "dee"), leaks=True, most=3):
    """The pairs (what was done, vault behind it) of steps that are drawn, turns and dropped turns among them."""
    rng = random.Random(seed)
    vault = FRESH
    for name in names[:rng.randrange(2, len(names) + 1)]:
        vault = come(vault, name)
        yield ("come", name), vault
    for record in ("memo", "plan", "roll")[:rng.randrange(4)]:
        word = ("begin", record, some_step(rng, vault, "begin")[2])
        vault = stepped(vault, word)
        yield word, vault
    words = ["begin", "go", "look", "take", "take", "write", "write", "write", "turn", "turn", "turn", "turn", "stop",
             "renew"] + ["leak"] * leaks
    for _ in range(many):
        word = rng.choice(words)
        behind = None
        if word in ("turn", "stop"):
            goals = some_goals(rng, vault, most) if rng.random() < 0.5 else due_goals(vault)[:most]
            plan = some_plan(rng, vault, goals) if are_goals(vault, goals) else None
            if plan is not None:
                rows = stops(vault, goals, plan)
                at = len(rows) - 1 if word == "turn" else rng.randrange(len(rows))
                behind = rows[at]
                word = ("turn", goals, plan) if at == len(rows) - 1 else ("stop", goals, plan, at + 1)
        else:
            word = some_step(rng, vault, word)
            behind = stepped(vault, word)
        if isinstance(behind, tuple):
            vault = behind
            yield word, vault


def some_step(rng, vault, word):
    """A step of [49] that may be barred."""
    names = names_of(vault)
    record = rng.choice([record for record, _, _ in vault[2]] or ["none"])
    some = rng.choice([tuple(sorted(rng.sample(names, rng.randrange(1, len(names) + 1))))])
    sides = (some,) if rng.random() < 0.5 else (some, tuple(sorted(rng.sample(names, rng.randrange(1, len(names) + 1)))))
    return {"begin": ("begin", rng.choice(("memo", "plan", "roll")), sides), "go": ("go", record, rng.randrange(2),
            rng.choice(names)), "look": ("look", rng.choice(names), rng.randrange(len(puts(vault[3])) + 1)),
            "take": ("take", rng.randrange(len(puts(vault[3])) + 1)), "write": ("write", record),
            "renew": ("renew", rng.choice(names)), "leak": ("leak", rng.randrange(vault[0])),
            "come": ("come", rng.choice(("ann", "eve")))}[word]
