"""Goals of turns and the ways in which they may be met ([8], [53])."""

import inspect
import random
import unittest

from sealshelf.goals import allowed_ways, are_goals, may_stay
from sealshelf.turnstops import turned
from sealshelf.vaultsteps import begun, came, fresh_vault, leaked, renewed, taken, went, written
from tests import naiveturns
from tests.making import WRONG, deep, variants
from tests.naivevaults import MEMO, TWO_SIDES, VAULT, some_vault
from tests.naiveturns import led, some_goals
from tests.test_vaultsteps import BOTH, FOUNDED, THREE

ALL = (("memo", 0, ("ann", "bob", "cy")),)
LED = turned(FOUNDED, BOTH, (("new", (0, 1)),))
PAIR = ("memo", 0, ("ann", "bob"))
TRIO = ("memo", 0, ("ann", "bob", "cy"))


def deeds_more(vault, *deeds):
    return vault[:3] + (vault[3] + deeds,)


class Goals(unittest.TestCase):
    def test_example(self):
        self.assertEqual(list(allowed_ways(VAULT, ALL)), [("new",), ("on",)])
        gone = went(VAULT, "memo", 0, "bob")
        self.assertEqual([may_stay(gone, ("memo", 0, ("ann",))), are_goals(gone, BOTH)], [False, True])

    def test_goals(self):
        for goals in ((), BOTH, ALL, (("memo", 0, ("ann", "bob", "cy")),)):
            self.assertIs(are_goals(VAULT, goals), True)
        for goals in (list(BOTH), (list(BOTH[0]),), (BOTH[0][:2],), (BOTH[0] + (0,),), (("plan", 0, ("ann", "bob")),),
                      (("memo", 1, ("ann", "bob")),), (("memo", False, ("ann", "bob")),), (("memo", -1, ("ann", "bob")),),
                      (("memo", 0, ["ann", "bob"]),), (("memo", 0, ("bob", "ann")),), (("memo", 0, ("ann", "ann", "bob")),),
                      (("memo", 0, ("ann",)),), (("memo", 0, ()),), (("memo", 0, ("ann", "bob", "zoe")),),
                      (("memo", 0, ("ann", "bob", "world")),), BOTH + BOTH, BOTH + ALL, (("Memo", 0, ("ann", "bob")),),
                      (("memo", 0, ("ann", "bob", None)),), (("memo", 0, None),), (("memo", None, ("ann", "bob")),),
                      ((["memo"], 0, ("ann", "bob")),), (None,), None, "", (("memo", 0, "ann"),), 0):
            self.assertIs(are_goals(VAULT, goals), False, repr(goals))

    def test_each_record_at_most_once_and_ascending(self):
        vault = begun(VAULT, "plan", ("cy",), ("ann",))
        first, second, other = ("memo", 0, ("ann", "bob")), ("plan", 0, ("cy",)), ("plan", 1, ("ann",))
        self.assertEqual([are_goals(vault, goals) for goals in ((first, second), (second, first), (first, other),
                                                                (second, other), (second, second))],
                         [True, False, True, False, False])

    def test_somebody_comes_only_if_the_other_leads_are_good(self):
        wide, same = (("memo", 0, ("ann", "bob", "cy")),), (("memo", 0, ("ann", "bob")),)
        other = (("memo", 1, ("ann", "bob", "cy")),)
        self.assertEqual([are_goals(TWO_SIDES, wide), are_goals(TWO_SIDES, other)], [True, True])
        # The lead of the very side need not be good, that of the other one has to be.
        behind = leaked(TWO_SIDES, 0)
        self.assertEqual([are_goals(behind, wide), are_goals(behind, other), are_goals(behind, same)], [True, False, True])
        behind = leaked(TWO_SIDES, 2)
        self.assertEqual([are_goals(behind, wide), are_goals(behind, other), are_goals(behind, same)], [False, True, True])
        unwritten = begun(THREE, "memo", ("ann",), ("bob",))
        self.assertTrue(are_goals(unwritten, wide))

    def test_any_value(self):
        for value in WRONG + (deep(40), [], {}, tuple(range(5000))):
            self.assertIs(are_goals(VAULT, value), value == () and type(value) is tuple, repr(value))
        two = begun(VAULT, "plan", ("cy",), ("ann",))
        cases = [(vault, goals) for vault in (VAULT, TWO_SIDES) for goals in (BOTH, ALL)]
        for vault, goals in cases + [(two, (PAIR, ("plan", 1, ("ann", "cy"))))]:
            self.assertIs(are_goals(vault, goals), True)
            for value in variants(goals):
                self.assertIs(are_goals(vault, value), naiveturns.are_goals(vault, value), repr(value))

    def test_may_stay(self):
        self.assertEqual([may_stay(VAULT, PAIR), may_stay(VAULT, TRIO), may_stay(FOUNDED, PAIR)], [True, True, False])
        # Kept for due, also against those who went, and against the world.
        self.assertEqual([may_stay(leaked(VAULT, 2), PAIR), may_stay(leaked(VAULT, 2), TRIO), may_stay(leaked(VAULT, 1), TRIO),
                          may_stay(leaked(VAULT, 3), TRIO)], [True, True, False, False])
        self.assertTrue(may_stay(went(VAULT, "memo", 0, "bob"), PAIR))
        # What is taken was copied.
        self.assertFalse(may_stay(deeds_more(VAULT, ("put", (3, (2,))), ("take", 3)), PAIR))

    def test_may_stay_where_all_have_the_lead_or_not(self):
        lost = deeds_more(LED, ("take", 1))
        self.assertEqual([may_stay(lost, PAIR), may_stay(deeds_more(VAULT, ("take", 1)), PAIR)], [True, True])

    def test_may_not_stay_if_it_leads_elsewhere(self):
        for side in ((("cy",), 3), (("ann", "bob"), 3)):
            other = VAULT[:2] + (VAULT[2] + (("plan", (side,), ()),), VAULT[3])
            self.assertFalse(may_stay(other, PAIR))
        same = TWO_SIDES[:2] + ((("memo", ((("ann", "bob"), 3), (("ann", "bob"), 3)), ()),), TWO_SIDES[3][:5])
        self.assertFalse(may_stay(same, PAIR))

    def test_may_stay_only_where_nothing_but_the_newest_text_was_sealed_with_it(self):
        more = written(VAULT, "memo")
        self.assertEqual([may_stay(more, PAIR), may_stay(more, TRIO)], [False, False])
        for deed in (("put", (0, (3,))), ("put", (MEMO, (0, 3))), ("put", (MEMO, (3, 9))), ("put", (("plan", 0), (3,)))):
            self.assertFalse(may_stay(deeds_more(VAULT, deed), PAIR))
        self.assertTrue(may_stay(deeds_more(VAULT, ("put", (MEMO, (3,))), ("put", (MEMO, (0,)))), PAIR))
        # A box that was taken counts, too, and where nothing is written any box does.
        self.assertFalse(may_stay(deeds_more(VAULT, ("put", (0, (3,))), ("take", 3)), PAIR))
        self.assertEqual([may_stay(LED, PAIR), may_stay(deeds_more(LED, ("put", (MEMO, (3,)))), PAIR)], [True, False])

    def test_may_stay_on_one_of_two_sides(self):
        wide = ("memo", 0, ("ann", "bob", "cy"))
        self.assertEqual([may_stay(TWO_SIDES, goal) for goal in (PAIR, wide, ("memo", 1, ("bob", "cy")),
                                                                 ("memo", 1, ("ann", "bob", "cy")))], [True] * 4)
        # If the other lead was turned since, the box has not exactly the leads of its sides.
        for other in (None, 5, 3):
            sides = ((("ann", "bob"), 3), (("bob", "cy"), other))
            self.assertFalse(may_stay(TWO_SIDES[:2] + ((("memo", sides, TWO_SIDES[2][0][2]),), TWO_SIDES[3]), PAIR))
        # The other lead has to be good only where somebody of due lacks the lead that stays, and a text is sealed with it.
        bad = deeds_more(TWO_SIDES, ("take", 3))
        self.assertEqual([may_stay(bad, PAIR), may_stay(bad, wide)], [True, False])
        lacking = deeds_more(bad, ("take", 1))
        self.assertFalse(may_stay(lacking, PAIR))
        empty = TWO_SIDES[:2] + ((("memo", TWO_SIDES[2][0][1], ()),), TWO_SIDES[3][:5] + (("take", 1), ("take", 3)))
        self.assertTrue(may_stay(empty, PAIR))

    def test_allowed_ways(self):
        self.assertTrue(inspect.isgeneratorfunction(allowed_ways))
        self.assertEqual(list(allowed_ways(VAULT, ())), [()])
        self.assertEqual(list(allowed_ways(FOUNDED, BOTH)), [("new",)])
        vault = begun(VAULT, "plan", ("cy",))
        led_plan = turned(vault, (("plan", 0, ("cy",)),), (("new", (2,)),))
        both = (("memo", 0, ("ann", "bob")), ("plan", 0, ("cy",)))
        self.assertEqual(list(allowed_ways(led_plan, both)), [("new", "new"), ("new", "on"), ("on", "new"), ("on", "on")])
        self.assertEqual(list(allowed_ways(vault, both)), [("new", "new"), ("on", "new")])
        self.assertEqual(list(allowed_ways(leaked(led_plan, 0), both)), [("new", "new"), ("new", "on")])

    def test_word_by_word(self):
        found = set()
        for seed in range(150):
            rng = random.Random(seed)
            vaults = [some_vault(seed)] + [vault for _, vault in led(seed, 18)][::3]
            for vault in vaults:
                for _ in range(4 if vault[1] else 0):
                    goals = some_goals(rng, vault)
                    right = naiveturns.are_goals(vault, goals)
                    self.assertIs(are_goals(vault, goals), right, repr((vault, goals)))
                    if right:
                        ways = naiveturns.allowed_ways(vault, goals)
                        self.assertEqual(list(allowed_ways(vault, goals)), ways)
                        found.add((len(goals), len(ways)))
                        for goal in goals:
                            self.assertIs(may_stay(vault, goal), naiveturns.may_stay(vault, goal))
        self.assertLessEqual({(0, 1), (1, 1), (1, 2), (2, 1), (2, 2), (2, 4), (3, 1), (3, 2), (3, 4)}, found)

    def test_renewed_and_taken_vaults_are_asked_as_they_are_now(self):
        gone = taken(went(VAULT, "memo", 0, "bob"), 1)
        # bob had the lead, so it is not kept for ann alone.
        self.assertEqual([may_stay(gone, ("memo", 0, ("ann",))), may_stay(gone, PAIR), may_stay(renewed(gone, "bob"), PAIR)],
                         [False, True, True])
        self.assertTrue(are_goals(came(gone, "dee"), (("memo", 0, ("ann", "dee")),)))
        self.assertFalse(are_goals(fresh_vault(), BOTH))

    def test_arguments_by_name(self):
        self.assertEqual([are_goals(thing=BOTH, vault=VAULT), may_stay(goal=PAIR, vault=VAULT),
                          list(allowed_ways(goals=ALL, vault=VAULT))], [True, True, [("new",), ("on",)]])
