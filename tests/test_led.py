"""What holds of vaults that are led by their own steps, also between two boxes of a turn ([9], [60], [68])."""

import random
import unittest

from sealshelf.goals import may_stay
from sealshelf.planchecker import lets_plan
from sealshelf.plans import fewest_turn
from sealshelf.soundchecker import lets_sound
from sealshelf.soundness import is_open, is_shut, is_sound, sound_paper
from sealshelf.turnstops import stops_of, turned
from sealshelf.vaultchecker import lets_vault
from sealshelf.vaultfacts import exposed, is_good, is_kept, outside, text_readers
from sealshelf.vaultsteps import begun, came, fresh_vault, leaked, looked, renewed, taken, went, written
from tests import naiveturns, naivevaults
from tests.making import told, variants
from tests.naive import parts_of
from tests.naivetimes import had
from tests.naiveturns import are_goals, due_goals, led, names_of, records_of, some_goals, some_plan, some_step, sound_error
from tests.naivevaults import texts_of

WORDS = ("come", "begin", "go", "leak", "renew", "look", "take", "write")


def done(vault, step):
    """What the program makes of a step: the vault behind it or the attributes of the error."""
    word, *rest = step
    if word == "begin":
        return told(begun, vault, rest[0], *rest[1])
    if word == "turn":
        return told(turned, vault, *rest)
    if word == "stop":
        return list(stops_of(vault, *rest[:2]))[rest[2] - 1]
    return told({"come": came, "go": went, "leak": leaked, "renew": renewed, "look": looked, "take": taken,
                 "write": written}[word], vault, *rest)


def leads_of(vault):
    """All sides of all records that have a good lead."""
    return {(record, s) for record, (sides, _) in records_of(vault).items() for s in range(len(sides))
            if is_good(vault, record, s)}


class LedVaults(unittest.TestCase):
    def moments(self, seeds, many=25):
        """Steps with the vaults ahead of them and behind them."""
        for seed in seeds:
            before = fresh_vault()
            for step, behind in led(seed, many):
                yield seed, before, step, behind
                before = behind

    def test_steps_do_what_the_plain_ones_do(self):
        words = set()
        for seed, before, step, behind in self.moments(range(150)):
            self.assertEqual(done(before, step), behind, repr((seed, step)))
            words.add(step[0])
        self.assertEqual(words, {*WORDS, "turn", "stop"})

    def test_barred_steps_have_the_same_words(self):
        found = set()
        for seed, _, _, vault in self.moments(range(80)):
            rng = random.Random(seed)
            for word in WORDS:
                step = some_step(rng, vault, word)
                wanted = naiveturns.stepped(vault, step)
                if isinstance(wanted, str):
                    found.add((word, wanted))
                    wanted = ("InvalidStep", step, wanted)
                self.assertEqual(done(vault, step), wanted)
        self.assertLessEqual({("come", "there"), ("begin", "there"), ("go", "record"), ("go", "side"), ("go", "reader"),
                              ("go", "last"), ("look", "box"), ("look", "keys"), ("take", "box"), ("take", "open"),
                              ("take", "lead"), ("write", "record"), ("write", "lead")}, found)

    def test_sound_behind_each_step(self):
        for seed, _, step, vault in self.moments(range(120)):
            self.assertEqual(lets_vault(vault), (len(vault[1]), len(vault[2])))
            self.assertEqual([is_open(vault), is_shut(vault), is_sound(vault)], [True] * 3, repr((seed, step, vault)))
            self.assertTrue(naiveturns.is_sound(vault))
            paper = sound_paper(vault)
            self.assertEqual(lets_sound(vault, paper), tuple(sound_error(vault, paper)))

    def test_sound_papers_changed_at_one_place_are_accepted_only_if_they_are_papers(self):
        for seed in range(6):
            vault = list(led(seed, 14))[-1][1]
            for value in variants(sound_paper(vault)):
                wanted = sound_error(vault, value)
                self.assertEqual(told(lets_sound, vault, value),
                                 ("InvalidPaper", *wanted) if isinstance(wanted, tuple) else tuple(wanted))

    def turns(self, seeds):
        """Vaults led by steps, with goals and any plan for them."""
        for seed, _, _, vault in self.moments(seeds):
            rng = random.Random(seed)
            goals = some_goals(rng, vault)
            plan = some_plan(rng, vault, goals) if are_goals(vault, goals) else None
            if plan is not None:
                yield vault, goals, plan

    def test_sound_behind_each_box_of_each_turn(self):
        many = 0
        for vault, goals, plan in self.turns(range(100)):
            for one in stops_of(vault, goals, plan):
                self.assertEqual(lets_vault(one), (len(vault[1]), len(vault[2])))
                self.assertTrue(is_sound(one) and naiveturns.is_sound(one), repr((vault, goals, plan)))
                self.assertEqual(lets_sound(one, sound_paper(one)), tuple(sound_error(one, sound_paper(one))))
                many += 1
        self.assertGreater(many, 1000)

    def test_behind_a_turn_its_leads_are_good_and_no_other_has_become_bad(self):
        for vault, goals, plan in self.turns(range(100)):
            behind = turned(vault, goals, plan)
            self.assertLessEqual(leads_of(vault) | {(record, side) for record, side, _ in goals}, leads_of(behind))
            self.assertEqual(len(behind[3]) - len(vault[3]), lets_plan(vault, goals, plan))
            for record, side, due in goals:
                self.assertEqual(records_of(behind)[record][0][side][0], due)

    def test_good_leads_that_may_stay_and_nobody_who_comes(self):
        many = 0
        for _, _, _, vault in self.moments(range(60)):
            goals = tuple((record, 0, sides[0][0]) for record, sides, _ in vault[2])
            if all(is_good(vault, record, 0) and may_stay(vault, goal) for goal in goals for record in goal[:1]):
                self.assertEqual([lets_plan(vault, goals, (("on", ()),) * len(goals)), list(stops_of(
                    vault, goals, (("on", ()),) * len(goals)))], [0, []])
                many += len(goals) > 0
        self.assertGreater(many, 20)

    def test_there_is_a_plan_where_own_keys_did_not_leak(self):
        for _, _, _, vault in self.moments(range(60)):
            safe = [name for name, own in vault[1] if own not in had(vault[3], ("world",), len(vault[3]), "copied")]
            for record, sides, _ in vault[2]:
                for side, (readers, _) in enumerate(sides):
                    for due in (readers, tuple(names_of(vault))):
                        goals = ((record, side, due),)
                        if set(due) <= set(safe) and are_goals(vault, goals):
                            self.assertIsNotNone(fewest_turn(vault, goals))

    def test_a_good_lead_becomes_bad_only_so(self):
        for _, before, step, behind in self.moments(range(150)):
            lost = leads_of(before) - leads_of(behind)
            if step[0] == "go":
                self.assertLessEqual(lost, {step[1:3]})
            elif step[0] == "stop":
                self.assertLessEqual(lost, {(record, side) for record, side, due in step[1]
                                            if due != records_of(before)[record][0][side][0]})
            elif step[0] != "leak":
                self.assertEqual(lost, set(), repr(step))

    def test_who_has_copied_a_text(self):
        for _, _, _, vault in self.moments(range(40)):
            lost = exposed(vault)
            for text, sides in texts_of(vault).items():
                for group in parts_of(names_of(vault) + ["world"]) if text not in lost else []:
                    copied = text in had(vault[3], group, len(vault[3]), "copied")
                    reads = all(set(group) & set(readers) for readers in sides)
                    self.assertTrue(reads or not copied, repr((vault, text, group)))
                    if len(sides) == 1:
                        self.assertIs(copied, reads, repr((vault, text, group)))

    def test_a_text_written_behind_a_leak_is_not_exposed_by_it(self):
        for seed in range(150):
            rows = list(led(seed))
            for k, (step, vault) in enumerate(rows):
                if step[0] == "write":
                    text = (step[1], len(records_of(vault)[step[1]][1]) - 1)
                    leaks = False
                    for later, behind in rows[k:]:
                        leaks = leaks or later[0] == "leak"
                        self.assertTrue(leaks or text not in exposed(behind))
                        world = text in had(behind[3], ("world",), len(behind[3]), "copied")
                        self.assertTrue(leaks or not world)

    def test_facts_of_vaults_that_steps_make(self):
        for _, _, _, vault in self.moments(range(30)):
            self.assertEqual(exposed(vault), naivevaults.exposed(vault))
            for holders in parts_of(names_of(vault)):
                self.assertEqual(outside(vault, holders), naivevaults.outside_pair(vault, holders))
                for key in range(vault[0]):
                    self.assertIs(is_kept(vault, key, holders), key not in naivevaults.outside(vault, holders))
            for record, (sides, _) in records_of(vault).items():
                for side in range(len(sides)):
                    self.assertIs(is_good(vault, record, side), naivevaults.is_good(vault, record, side))
            for text, readers in texts_of(vault).items():
                self.assertEqual(text_readers(vault, text), readers)

    def test_readers_of_texts_are_all_who_read_while_it_was_the_newest(self):
        for seed in range(80):
            reading = {}
            for step, vault in led(seed):
                for record, (sides, texts) in records_of(vault).items():
                    if texts:
                        text = reading.setdefault((record, len(texts) - 1), [set() for _ in sides])
                        for s, (readers, _) in enumerate(sides):
                            text[s] |= set(readers)
                for text, readers in reading.items():
                    self.assertEqual(text_readers(vault, text), tuple(tuple(sorted(side)) for side in readers))

    def test_due_goals_have_turns_and_then_all_can_be_written(self):
        many = 0
        for _, _, _, vault in self.moments(range(60)):
            leaked_keys = had(vault[3], ("world",), len(vault[3]), "copied")
            if any(own in leaked_keys for _, own in vault[1]):
                continue
            for _ in range(2):
                goals = due_goals(vault)
                self.assertTrue(are_goals(vault, goals))
                vault = turned(vault, goals, fewest_turn(vault, goals))
            for record, _, _ in vault[2]:
                self.assertEqual(len(written(vault, record)[3]), len(vault[3]) + 1)
                many += 1
        self.assertGreater(many, 300)
