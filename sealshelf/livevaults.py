"""Vaults that are led by steps, with a log ([62] to [68])."""

from sealshelf.errors import InvalidStep, NothingToUndo, UnknownHolder
from sealshelf.goals import are_goals
from sealshelf.havings import had, has
from sealshelf.livesteps import answer_of, behind
from sealshelf.lyings import boxes_put, hand_at, lying
from sealshelf.plans import fewest_turn
from sealshelf.rowreadings import read_log
from sealshelf.steprows import log_rows, names_text
from sealshelf.texts import thing_text
from sealshelf.vaultfacts import exposed, holders_in, is_good, record_in, text_readers
from sealshelf.vaultsteps import fresh_vault


class Vault:
    """A present vault and the log of the steps that led to it."""

    def __init__(self):
        self._log = []
        # The vault behind each number of steps, so that undoing does none of them anew.
        self._vaults = [fresh_vault()]
        self._operations = 0

    @classmethod
    def read(cls, text):
        """The Vault that any string writes; InvalidText, then InvalidStep."""
        log = read_log(text.split("\n") if text else [])
        vault = cls()
        vault.replay(log)
        return vault

    @property
    def present(self):
        """The present vault."""
        return self._vaults[-1]

    def replay(self, steps):
        """Do steps one after the other, uncounted, until one is barred."""
        for step in steps:
            self._do(step)

    def _do(self, step):
        """Do a step, uncounted, and return its answer."""
        before = self._vaults[-1]
        after = behind(before, step)
        self._vaults.append(after)
        self._log.append(step)
        return answer_of(before, step, after)

    def _back(self, many):
        """Go back to the first so many steps."""
        del self._log[many:]
        del self._vaults[many + 1:]

    def __call__(self, step):
        return self.go(step)

    def go(self, step):
        """Do a step and return its answer."""
        self._operations += 1
        return self._do(step)

    def come(self, holder):
        """A holder comes: their own key."""
        return self.go(("come", holder))

    def begin(self, record, *sides):
        """A record is begun."""
        return self.go(("begin", record, sides))

    def leave(self, record, side, holder):
        """A holder reads on a side no more."""
        return self.go(("go", record, side, holder))

    def leak(self, key):
        """The world comes to have a key."""
        return self.go(("leak", key))

    def renew(self, holder):
        """A holder gets a new own key: this key."""
        return self.go(("renew", holder))

    def look(self, holder, b):
        """A holder opens a box: its thing."""
        return self.go(("look", holder, b))

    def take(self, b):
        """A box is taken off."""
        return self.go(("take", b))

    def write(self, record):
        """The next text of a record is written: this text."""
        return self.go(("write", record))

    def turn(self, goals, plan):
        """A turn is done: the number of its boxes."""
        return self.go(("turn", goals, plan))

    def stop(self, goals, plan, many):
        """The first boxes of a turn are put, and it is dropped."""
        return self.go(("stop", goals, plan, many))

    def barred(self, step):
        """The word that bars a step, or None."""
        try:
            behind(self.present, step)
        except InvalidStep as wrong:
            return wrong.word
        return None

    def turn_for(self, goals):
        """A turn with the fewest boxes for any value as goals: the number of its boxes."""
        self._operations += 1
        return self._do(("turn", goals, self._fewest(goals)))

    def _fewest(self, goals):
        """A plan with the fewest boxes; InvalidStep if any value is no goals, or there is no plan."""
        if not are_goals(self.present, goals):
            raise InvalidStep(("turn", goals), "goals")
        plan = fewest_turn(self.present, goals)
        if plan is None:
            raise InvalidStep(("turn", goals), "none")
        return plan

    def due_goals(self):
        """The due goals, ascending: one for each record with a lead that is None or not good."""
        goals = []
        for record, sides, _ in self.present[2]:
            due = [(record, s, readers) for s, (readers, _) in enumerate(sides) if not self.is_good(record, s)]
            goals.extend(due[:1])
        return tuple(goals)

    def holders(self):
        """The ascending tuple of the holders."""
        return tuple(holders_in(self.present))

    def records(self):
        """The ascending tuple of the records."""
        return tuple([record for record, _, _ in self.present[2]])

    def own_key(self, holder):
        """The own key of a holder now."""
        for name, own in self.present[1]:
            if name == holder:
                return own
        raise UnknownHolder(holder)

    def __getitem__(self, record):
        _, sides, _ = known_record(self._vaults[-1], record)
        return tuple([readers for readers, _ in sides])

    def __iter__(self):
        raise TypeError("records() tells the records")

    def __contains__(self, record):
        return record_in(self._vaults[-1], record) is not None

    def __len__(self):
        return len(self._vaults[-1][2])

    def leads(self, record):
        """The tuple of the leads of a record."""
        _, sides, _ = known_record(self.present, record)
        return tuple([lead for _, lead in sides])

    def newest(self, record):
        """The newest text of a record, or None."""
        _, _, texts = known_record(self.present, record)
        return (record, len(texts) - 1) if texts else None

    def is_good(self, record, side):
        """Whether the lead of a side of a record is good."""
        return is_good(self.present, record, side)

    def shelf(self):
        """The shelf: all keys that holders were handed, and the boxes that lie there."""
        history = self.present[3]
        hands = [(name, hand_at(history, (name,), len(history))) for name in self.holders()]
        boxes = boxes_put(history)
        return (tuple(hands), tuple([boxes[b] for b in self.lying()]))

    def lying(self):
        """The numbers of the puts that lie there, ascending."""
        history = self.present[3]
        return lying(history, len(history))

    def needless(self):
        """The numbers of the puts that lie there and can be taken, ascending."""
        return tuple([b for b in self.lying() if self.barred(("take", b)) is None])

    def room(self):
        """How many boxes lie there."""
        return len(self.lying())

    def boxes(self):
        """The tuple of all boxes that were put."""
        return boxes_put(self.present[3])

    def had(self, group, word):
        """The pair (keys, texts) of what a group has in the way that word names."""
        history = self.present[3]
        return had(history, group, len(history), word)

    def who_had(self, thing, word):
        """Those of the holders and the world, ascending, who alone have a text; Locked if it is none."""
        text_readers(self.present, thing)
        history = self.present[3]
        names = sorted(holders_in(self.present) + ["world"])
        return tuple([name for name in names if has(history, (name,), len(history), thing, word)])

    def exposed(self):
        """The exposed texts, ascending."""
        return exposed(self.present)

    def __eq__(self, other):
        # Steps by kind are equal only if their elements are of equal kinds.
        return isinstance(other, Vault) and self._log == other._log

    def __ne__(self, other):
        return not self == other

    def __str__(self):
        return str(" / ".join(log_rows(self._log)) if self._log else "-")

    def do_all(self, *steps, keep=False):
        """Do steps in order: how many they are. If one is barred, those before it are kept only if keep is True."""
        self._operations += 1
        many = len(self._log)
        try:
            self.replay(steps)
        except InvalidStep:
            if keep is not True:
                self._back(many)
            raise
        return len(steps)

    def tried(self, *steps):
        """The exposed texts and the room behind steps, which are not done."""
        vault = self.present
        for step in steps:
            vault = behind(vault, step)
        history = vault[3]
        return (exposed(vault), len(lying(history, len(history))))

    def undo(self):
        """Remove the last step and return it."""
        self._operations += 1
        if not self._log:
            raise NothingToUndo(0)
        step = self._log[-1]
        self._back(len(self._log) - 1)
        return step

    def log(self):
        """The tuple of the steps."""
        return tuple(self._log)

    def counts(self):
        """The numbers of started and of finished operations."""
        # Each one is finished when its call ends, by an error, too.
        return (self._operations, self._operations)

    def table(self):
        """A string for each record: its name, its newest text, its sides, and whether it can be written."""
        due = [record for record, _, _ in self.due_goals()]
        rows = []
        for record, sides, _ in self.present[2]:
            newest = self.newest(record)
            written = thing_text(newest) if newest else "-"
            rows.append((record, written, sides_text(sides), "due" if record in due else "good"))
        widths = [max([len(row[k]) for row in rows], default=0) for k in range(3)]
        return ["  ".join([row[k].ljust(widths[k]) for k in range(3)] + [row[3]]) for row in rows]


def known_record(vault, record):
    """The record of a vault with this name, or InvalidStep for any value that is none."""
    found = record_in(vault, record)
    if found is None:
        raise InvalidStep(("record", record), "record")
    return found


def sides_text(sides):
    """Each side as NAMES=LEAD, with single spaces between."""
    return " ".join([f"{names_text(readers)}={lead_text(lead)}" for readers, lead in sides])


def lead_text(lead):
    """A lead as its digits, - for None."""
    return "-" if lead is None else str(lead)
