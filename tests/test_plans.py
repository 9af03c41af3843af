"""Plans for turns, their checker, plans with the fewest boxes and turn papers ([8], [53] to [57])."""

import random
import unittest

from sealshelf.errors import InvalidPaper
from sealshelf.planchecker import lets_plan
from sealshelf.plans import fewest_turn, turn_paper
from sealshelf.turnstops import turned
from sealshelf.vaultsteps import begun, came, fresh_vault, leaked, renewed, taken, went, written
from tests.making import WRONG, deep, told, variants
from tests.naivevaults import MEMO, TWO_SIDES, VAULT, some_vault
from tests.naiveturns import all_plans, are_goals, fewest, led, nodes_of, plan_error, some_goals, some_plan, turn_error
from tests.test_vaultsteps import BOTH, FOUNDED, THREE

ALL = (("memo", 0, ("ann", "bob", "cy")),)
LED = turned(FOUNDED, BOTH, (("new", (0, 1)),))
RECORDS = begun(begun(begun(THREE, "a", ("ann",)), "b", ("ann", "bob")), "c", ("ann", "bob"))
GOALS = (("a", 0, ("ann",)), ("b", 0, ("ann", "bob")), ("c", 0, ("ann", "bob")))


class Plans(unittest.TestCase):
    def raises(self, word, at, vault, goals, plan):
        with self.assertRaises(InvalidPaper) as caught:
            lets_plan(vault, goals, plan)
        self.assertEqual((caught.exception.word, caught.exception.at), (word, at), repr(plan))
        self.assertIs(type(caught.exception.at), type(at))

    def agrees(self, vault, goals, value):
        """The checker does with this value what the plain one does."""
        wanted = plan_error(vault, goals, value)
        got = told(lets_plan, vault, goals, value)
        self.assertEqual(got, ("InvalidPaper", *wanted) if isinstance(wanted, tuple) else wanted, repr((vault, goals, value)))
        return got

    def test_example(self):
        self.assertEqual(fewest_turn(VAULT, ALL), (("on", (2,)),))
        gone = went(VAULT, "memo", 0, "bob")
        self.assertEqual(fewest_turn(gone, (("memo", 0, ("ann", "cy")),)), (("new", (0, 2)),))
        self.assertEqual([lets_plan(VAULT, ALL, (("on", (2,)),)), lets_plan(VAULT, ALL, (("new", (2, 3)),))], [1, 3])
        self.raises("reach", (0, 0), VAULT, ALL, (("new", (2,)),))

    def test_no_goals(self):
        self.assertEqual([lets_plan(VAULT, (), ()), fewest_turn(VAULT, ()), fewest_turn(fresh_vault(), ()),
                          turn_paper(VAULT, ())], [0, (), (), ((), (((), ()),))])
        self.raises("many", -1, VAULT, (), (("on", ()),))

    def test_all_of_due_have_the_lead(self):
        self.assertEqual([fewest_turn(VAULT, BOTH), lets_plan(VAULT, BOTH, (("on", ()),))], [(("on", ()),), 0])
        for key in (0, 1, 2, 3, 4):
            self.raises("key", (0, 0), VAULT, BOTH, (("on", (key,)),))
        self.assertEqual(lets_plan(VAULT, BOTH, (("new", (3,)),)), 1)

    def test_shape_and_many(self):
        for value in WRONG + (deep(40), [("on", ())], (["on", ()],), (("on",),), (("on", (), ()),), (("on", []),), (("on", None),),
                              ((None, ()),), ((1, ()),), (("on", (True,)),), (("on", (-1,)),), (("on", ("0",)),), ("on",)):
            if value != () or type(value) is not tuple:
                self.raises("shape", -1, VAULT, BOTH, value)
        self.raises("many", -1, VAULT, BOTH, ())
        self.raises("many", -1, VAULT, BOTH, (("on", ()), ("off", ())))

    def test_words(self):
        for word in ("", "On", "old", "newly", "on "):
            self.raises("word", 0, VAULT, BOTH, ((word, ()),))
        self.raises("on", 0, FOUNDED, BOTH, (("on", (0, 1)),))
        self.raises("on", 0, leaked(VAULT, 0), BOTH, (("on", ()),))
        # All words come before the first key.
        self.raises("word", 1, RECORDS, GOALS, (("new", (9,)), ("off", ()), ("on", ())))
        self.raises("on", 2, RECORDS, GOALS, (("new", (9, 8)), ("new", ()), ("on", ())))
        self.raises("on", 0, RECORDS, GOALS, (("on", ()), ("off", ()), ("on", ())))

    def test_goals_that_share_a_new_key(self):
        # a has key 3 for ann, and b has the boxes for c, too.
        self.assertEqual([lets_plan(RECORDS, GOALS, plan) for plan in (
            (("new", (0,)), ("new", (0, 1)), ("new", ())), (("new", (0,)), ("new", (1, 3)), ("new", ())))], [3, 3])
        self.raises("keys", 2, RECORDS, GOALS, (("new", (0,)), ("new", (0, 1)), ("new", (0, 1))))
        self.raises("keys", 2, RECORDS, GOALS, (("new", (0,)), ("new", (0, 1)), ("new", (4,))))
        self.raises("reach", (1, 0), RECORDS, GOALS, (("new", (0,)), ("new", ()), ("new", (0, 1))))
        self.raises("key", (1, 1), RECORDS, GOALS, (("new", (0,)), ("new", (0, 2)), ("new", ())))
        self.raises("key", (1, 2), RECORDS, GOALS, (("new", (0,)), ("new", (0, 1, 4)), ("new", ())))
        self.raises("key", (0, 0), RECORDS, GOALS, (("new", (3,)), ("new", (0, 1)), ("new", ())))
        behind = turned(RECORDS, GOALS, (("new", (0,)), ("new", (1, 3)), ("new", ())))
        self.assertEqual([[side[1] for side in one[1]] for one in behind[2]], [[3], [4], [4]])

    def test_errors_come_in_the_order_of_doing(self):
        vault = begun(begun(THREE, "a", ("ann", "bob")), "b", ("cy",))
        goals = (("a", 0, ("ann", "bob")), ("b", 0, ("cy",)))
        self.raises("keys", 1, vault, goals, (("new", (1, 0)), ("new", (2, 2))))
        self.raises("reach", (1, 0), vault, goals, (("new", (1, 0)), ("new", ())))
        self.raises("keys", 0, vault, goals, (("new", (1, 0)), ("new", (2,))))
        self.raises("key", (0, 1), vault, goals, (("new", (0, 2)), ("new", (2,))))
        self.raises("key", (0, 2), vault, goals, (("new", (0, 1, 3)), ("new", (2,))))
        self.raises("reach", (0, 1), vault, goals, (("new", (0,)), ("new", (2,))))
        self.assertEqual(fewest_turn(vault, goals), (("new", (0, 1)), ("new", (2,))))
        # By due, where they are equally many; and by record at last.
        goals = (("a", 0, ("ann", "bob", "cy")), ("b", 0, ("ann", "cy")))
        self.raises("reach", (1, 0), vault, goals, (("new", ()), ("new", ())))
        self.assertEqual(lets_plan(vault, goals, (("new", (1, 3)), ("new", (0, 2)))), 4)
        self.raises("key", (1, 0), vault, goals, (("new", (1, 3)), ("new", (4,))))

    def test_on_is_done_before_new(self):
        vault = begun(LED, "a", ("ann", "bob"))
        goals = (("a", 0, ("ann", "bob")), BOTH[0])
        # The lead that stays reaches all of an equal due, so one box is enough.
        self.assertEqual(lets_plan(vault, goals, (("new", (3,)), ("on", ()))), 1)
        self.assertEqual(lets_plan(vault, goals, fewest_turn(vault, goals)), 1)
        # If neither stays, the old lead is an old key, and both share a new one.
        self.assertEqual(lets_plan(vault, goals, (("new", (3,)), ("new", ()))), 1)
        # But not a lead that stays with equal due for another one that stays.
        both = turned(vault, goals, (("new", (0, 1)), ("on", ())))
        lost = both[:3] + (both[3] + (("take", 1),),)
        self.raises("key", (1, 0), lost, goals, (("on", ()), ("on", (4,))))
        self.assertEqual(lets_plan(lost, goals, (("on", ()), ("on", (1,)))), 1)
        self.assertEqual(lets_plan(lost, goals, (("on", ()), ("new", (4,)))), 1)

    def test_leads_reach_where_their_due_are_a_proper_part(self):
        vault = begun(LED, "a", ("ann",))
        wide = (("a", 0, ("ann", "bob", "cy")), BOTH[0])
        self.assertEqual(lets_plan(vault, wide, (("new", (2, 3)), ("on", ()))), 2)
        self.assertEqual(lets_plan(vault, wide, (("new", (2, 4)), ("new", (0, 1)))), 4)
        narrow = (("a", 0, ("ann",)), BOTH[0])
        # The lead of more is not done before, and as the lead of a goal by "on" it is no old key.
        self.raises("key", (0, 0), vault, narrow, (("new", (3,)), ("on", ())))
        self.raises("key", (0, 0), vault, narrow, (("new", (3,)), ("new", (1, 4))))
        self.assertEqual(lets_plan(vault, narrow, (("new", (0,)), ("new", (3,)))), 2)
        self.assertEqual(lets_plan(vault, narrow, (("new", (0,)), ("new", (1, 4)))), 3)

    def test_lead_that_is_handed_on_reaches_those_who_come(self):
        vault = begun(LED, "a", ("cy",))
        goals = (("a", 0, ("ann", "bob", "cy", "dee")), ALL[0])
        vault = came(vault, "dee")
        # By "on", memo's lead comes to cy, too, and reaches three for a.
        self.assertEqual(lets_plan(vault, goals, (("new", (3, 4)), ("on", (2,)))), 3)
        self.assertEqual(fewest_turn(vault, goals), (("new", (3, 4)), ("on", (2,))))

    def test_old_keys_reach_only_those_they_are_kept_for(self):
        # A key that leaked, the old lead of who went, a key that others copied.
        self.raises("key", (0, 0), leaked(VAULT, 0), BOTH, (("new", (0, 1)),))
        self.assertIsNone(fewest_turn(leaked(VAULT, 0), BOTH))
        again = renewed(leaked(VAULT, 0), "ann")
        self.assertEqual(lets_plan(again, BOTH, (("new", (1, 4)),)), 2)
        self.raises("key", (0, 1), again, BOTH, (("new", (1, 3, 4)),))
        gone = went(VAULT, "memo", 0, "bob")
        self.raises("key", (0, 0), gone, (("memo", 0, ("ann",)),), (("new", (3,)),))
        self.assertEqual(lets_plan(gone, (("memo", 0, ("ann",)),), (("new", (0,)),)), 1)
        # bob has copied the old lead, but does not have it now.
        lost = taken(gone, 1)
        self.raises("key", (0, 0), lost, BOTH, (("new", (3,)),))
        self.assertEqual(lets_plan(lost, BOTH, (("new", (0, 1)),)), 4 - 1)

    def test_former_own_keys_reach(self):
        vault = renewed(FOUNDED, "ann")
        self.assertEqual([lets_plan(vault, BOTH, (("new", keys),)) for keys in ((0, 1), (1, 3), (0, 1, 3))], [2, 2, 3])

    def test_boxes_with_texts(self):
        self.assertEqual([lets_plan(VAULT, ALL, (("on", (2,)),)), lets_plan(VAULT, ALL, (("new", (0, 1, 2)),)),
                          lets_plan(LED, ALL, (("new", (0, 1, 2)),))], [1, 4, 3])
        # By "on" one is put only if none lies there.
        off = VAULT[:3] + (VAULT[3] + (("take", 2),),)
        self.assertEqual([lets_plan(off, ALL, (("on", (2,)),)), lets_plan(off, BOTH, (("on", ()),))], [2, 0])
        other = VAULT[:3] + (off[3] + (("put", (MEMO, (0,))),),)
        self.assertEqual(lets_plan(other, ALL, (("on", (2,)),)), 2)
        wide = (("memo", 0, ("ann", "bob", "cy")),)
        self.assertEqual([lets_plan(TWO_SIDES, wide, (("on", (2,)),)), lets_plan(TWO_SIDES, wide, (("new", (2, 3)),))], [1, 3])

    def test_nobody_can_be_reached(self):
        vault = leaked(FOUNDED, 1)
        self.assertEqual([fewest_turn(vault, BOTH), turn_paper(vault, BOTH)], [None, None])
        self.raises("reach", (0, 1), vault, BOTH, (("new", (0,)),))
        self.raises("key", (0, 0), FOUNDED, BOTH, (("new", (3,)),))
        self.raises("key", (0, 0), FOUNDED, BOTH, (("new", (10 ** 59,)),))

    def test_plans_changed_at_one_place(self):
        words = set()
        vault = begun(LED, "a", ("ann",))
        cases = ((VAULT, ALL, (("new", (2, 3)),)), (VAULT, ALL, (("on", (2,)),)), (RECORDS, GOALS, fewest_turn(RECORDS, GOALS)),
                 (vault, (("a", 0, ("ann", "bob", "cy")), BOTH[0]), (("new", (2, 3)), ("on", ()))))
        for vault, goals, plan in cases:
            for value in variants(plan):
                got = self.agrees(vault, goals, value)
                words.add(got[1] if isinstance(got, tuple) else "right")
            for key in range(8):
                for k in range(len(plan)):
                    for keys in ((key,), plan[k][1] + (key,), tuple(sorted(plan[k][1] + (key,)))):
                        self.agrees(vault, goals, plan[:k] + ((plan[k][0], keys),) + plan[k + 1:])
        self.assertEqual(words, {"shape", "many", "word", "on", "keys", "key", "reach", "right"})

    def test_fewest_is_that_of_all_plans(self):
        found = set()
        for seed in range(60):
            rng = random.Random(seed)
            names, most = (("ann", "bob", "cy"), 1) if seed % 2 else (("ann", "bob"), 2)
            for vault in [vault for _, vault in led(seed, 9, names=names, most=most)][::3]:
                goals = some_goals(rng, vault, most)
                if vault[0] <= 7 and are_goals(vault, goals):
                    # Nobody has to be reached by more keys than there are holders.
                    plans = all_plans(vault, goals, len(vault[1]))
                    numbers = [plan_error(vault, goals, plan) for plan in plans]
                    plan = fewest_turn(vault, goals)
                    self.assertEqual(None if plan is None else lets_plan(vault, goals, plan), min(numbers, default=None))
                    found.add((len(goals), min(numbers, default=None)))
        self.assertLessEqual({(0, 0), (1, 0), (1, 1), (1, 2), (1, 3), (1, None), (2, 0), (2, 1), (2, 2), (2, 3), (2, None)},
                             found)

    def test_word_by_word(self):
        for seed in range(60):
            rng = random.Random(seed)
            for vault in [some_vault(seed)] + [vault for _, vault in led(seed)][::4]:
                goals = some_goals(rng, vault) if vault[1] else ()
                if not are_goals(vault, goals):
                    continue
                plan, wanted = fewest_turn(vault, goals), fewest(vault, goals)
                self.assertEqual(None if plan is None else lets_plan(vault, goals, plan), wanted)
                paper = turn_paper(vault, goals)
                self.assertEqual(None if paper is None else turn_error(vault, goals, paper), wanted)
                other = some_plan(rng, vault, goals)
                if other is not None:
                    self.assertGreaterEqual(self.agrees(vault, goals, other), wanted)
                    for k, (word, keys) in enumerate(other):
                        self.agrees(vault, goals, other[:k] + ((word, keys[1:]),) + other[k + 1:])
                        self.agrees(vault, goals, other[:k] + ((word, keys + (vault[0],)),) + other[k + 1:])
                        self.agrees(vault, goals, other[:k] + (({"on": "new", "new": "on"}[word], keys),) + other[k + 1:])

    def test_turn_paper(self):
        self.assertEqual(turn_paper(VAULT, BOTH), ((("on", ()),), ((("new",), ((),)), (("on",), ((),)))))
        plan, choices = turn_paper(VAULT, ALL)
        self.assertEqual([plan, [ways for ways, _ in choices]], [(("on", (2,)),), [("new",), ("on",)]])
        self.assertEqual(turn_error(VAULT, ALL, turn_paper(VAULT, ALL)), 1)
        self.assertEqual(turn_error(RECORDS, GOALS, turn_paper(RECORDS, GOALS)), 3)
        self.assertEqual(turn_paper(RECORDS, GOALS)[1][0][1][2], ())

    def test_at_the_limits(self):
        vault = fresh_vault()
        names = ("ann", "bob", "cy", "dee", "eve")
        for name in names:
            vault = came(vault, name)
        for k in range(16):
            vault = renewed(vault, names[k % 5])
        for record in ("a", "b", "c"):
            vault = begun(vault, record, names[:3], names)
        goals = (("a", 0, names), ("b", 0, names[:4]), ("c", 1, names))
        self.assertEqual(lets_plan(vault, goals, fewest_turn(vault, goals)), 6)
        paper = turn_paper(vault, goals)
        self.assertEqual(turn_error(vault, goals, paper), 6)
        self.assertLess(sum(1 for _, trees in paper[1] for tree in trees for _ in nodes_of(tree)), 20000)

    def test_written_again_a_lead_may_not_stay(self):
        more = written(VAULT, "memo")
        self.raises("on", 0, more, ALL, (("on", (2,)),))
        self.assertEqual(fewest_turn(more, ALL), (("new", (2, 3)),))

    def test_arguments_by_name(self):
        self.assertEqual([fewest_turn(goals=ALL, vault=VAULT), lets_plan(thing=(("on", (2,)),), goals=ALL, vault=VAULT),
                          turn_paper(goals=BOTH, vault=VAULT)[0]], [(("on", (2,)),), 1, (("on", ()),)])
