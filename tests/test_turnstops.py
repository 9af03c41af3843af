"""Turns, done box by box ([58], [59])."""

import inspect
import random
import unittest

from sealshelf.errors import InvalidStep
from sealshelf.soundness import is_sound
from sealshelf.turnstops import stops_of, turned
from sealshelf.vaultchecker import lets_vault
from sealshelf.vaultfacts import is_good, text_readers
from sealshelf.vaultsteps import begun, came, leaked, taken, went, written
from tests.making import WRONG, deep, told, variants
from tests.naivevaults import MEMO, TWO_SIDES, VAULT, some_vault
from tests.naiveturns import are_goals, led, plan_error, puts, some_goals, some_plan, stops
from tests.test_vaultsteps import BOTH, FOUNDED, THREE

ALL = (("memo", 0, ("ann", "bob", "cy")),)
LED = turned(FOUNDED, BOTH, (("new", (0, 1)),))


class TurnStops(unittest.TestCase):
    def barred(self, word, vault, goals, plan):
        for call in (lambda: turned(vault, goals, plan), lambda: list(stops_of(vault, goals, plan))):
            with self.assertRaises(InvalidStep) as caught:
                call()
            self.assertEqual((caught.exception.step, caught.exception.word), (("turn", goals, plan), word))
            self.assertEqual(repr(caught.exception.step), repr(("turn", goals, plan)))

    def boxes(self, vault, goals, plan):
        """The boxes that a turn puts, in order."""
        behind = turned(vault, goals, plan)
        return puts(behind[3])[len(puts(vault[3])):]

    def test_example(self):
        rows = list(stops_of(VAULT, ALL, (("new", (2, 3)),)))
        self.assertEqual([(len(one[3]), one[2][0][1]) for one in rows],
                         [(7, ((("ann", "bob"), 3),)), (8, ((("ann", "bob"), 3),)), (9, ((("ann", "bob", "cy"), 4),))])
        self.assertEqual([one[3][-1] for one in rows], [("put", (4, (3,))), ("put", (MEMO, (4,))), ("put", (4, (2,)))])
        self.assertEqual([one[2][0][2] for one in rows], [((("ann", "bob"),),)] * 2 + [((("ann", "bob", "cy"),),)])
        self.assertEqual([one[0] for one in rows], [5, 5, 5])
        self.assertEqual(turned(VAULT, ALL, (("new", (2, 3)),)), rows[-1])

    def test_a_new_lead(self):
        self.assertEqual(LED, (4, THREE[1], (("memo", ((("ann", "bob"), 3),), ()),),
                               THREE[3] + (("put", (3, (0,))), ("put", (3, (1,))))))
        rows = list(stops_of(FOUNDED, BOTH, (("new", (0, 1)),)))
        self.assertEqual([(one[0], one[2][0][1]) for one in rows], [(4, ((("ann", "bob"), None),)), (4, ((("ann", "bob"), 3),))])

    def test_a_turn_that_puts_no_box(self):
        self.assertEqual([turned(VAULT, BOTH, (("on", ()),)), list(stops_of(VAULT, BOTH, (("on", ()),)))], [VAULT, []])
        self.assertEqual([turned(VAULT, (), ()), list(stops_of(VAULT, (), ()))], [VAULT, []])
        # Who comes and has the lead, and needs no box, reads at once.
        gone = went(VAULT, "memo", 0, "bob")
        behind = turned(gone, BOTH, (("on", ()),))
        self.assertEqual([behind, list(stops_of(gone, BOTH, (("on", ()),)))], [VAULT, []])
        more = went(turned(VAULT, ALL, (("on", (2,)),)), "memo", 0, "cy")
        self.assertEqual(turned(more, ALL, (("on", ()),)), turned(VAULT, ALL, (("on", (2,)),)))

    def test_a_lead_that_is_handed_on(self):
        rows = list(stops_of(VAULT, ALL, (("on", (2,)),)))
        self.assertEqual(rows, [VAULT[:2] + ((("memo", ((("ann", "bob", "cy"), 3),), ((("ann", "bob", "cy"),),)),),
                                             VAULT[3] + (("put", (3, (2,))),))])

    def test_readers_who_come_are_readers_of_the_newest_text_alone(self):
        more = written(written(VAULT, "memo"), "memo")
        behind = turned(more, ALL, (("new", (2, 3)),))
        self.assertEqual([text_readers(behind, ("memo", n)) for n in range(3)],
                         [(("ann", "bob"),), (("ann", "bob"),), (("ann", "bob", "cy"),)])
        self.assertEqual(puts(behind[3])[-2], (("memo", 2), (4,)))

    def test_boxes_with_texts_come_between(self):
        # Boxes that reach nobody who comes, texts by record, the others.
        vault = begun(VAULT, "a", ("ann",))
        vault = written(turned(vault, (("a", 0, ("ann",)),), (("new", (0,)),)), "a")
        goals = (("a", 0, ("ann", "cy")), ALL[0])
        plan = (("new", (0, 2)), ("new", (1, 5)))
        self.assertEqual(self.boxes(vault, goals, plan),
                         [(5, (0,)), (6, (1,)), (("a", 0), (5,)), (MEMO, (6,)), (5, (2,)), (6, (5,))])
        rows = list(stops_of(vault, goals, plan))
        self.assertEqual([[one[1][0][0] for one in row[2]] for row in rows],
                         [[("ann",), ("ann", "bob")]] * 4 + [[("ann", "cy"), ("ann", "bob")], [("ann", "cy"), ("ann", "bob", "cy")]])
        self.assertEqual([[one[1][0][1] for one in row[2]] for row in rows], [[4, 3]] * 5 + [[5, 6]])
        self.assertTrue(all(is_sound(row) for row in rows))

    def test_a_key_reaches_those_who_have_the_lead_already(self):
        # Key 3 reaches bob, who comes again, and ann, who reads.
        gone = went(VAULT, "memo", 0, "bob")
        self.assertEqual(self.boxes(gone, ALL, (("new", (0, 1, 2)),)),
                         [(4, (0,)), (MEMO, (4,)), (4, (1,)), (4, (2,))])
        self.assertEqual(self.boxes(gone, ALL, (("new", (2, 3)),)), [(MEMO, (4,)), (4, (2,)), (4, (3,))])
        # By "on" as well: box (3, (4,)) reaches bob, who lacks the lead, and ann, who has it and comes.
        vault = begun(came(VAULT, "dee"), "a", ("ann", "cy"))
        vault = turned(vault, (("a", 0, ("ann", "cy")),), (("new", (0, 2)),))
        apart = went(vault, "memo", 0, "ann")
        goals = (("memo", 0, ("ann", "bob", "cy")),)
        rows = list(stops_of(apart, goals, (("on", (5,)),)))
        self.assertEqual([(row[3][-1], row[2][1][1]) for row in rows], [(("put", (3, (5,))), ((("ann", "bob", "cy"), 3),))])

    def test_goals_that_share_a_lead(self):
        # Who comes to one of them comes to the lead.
        vault = begun(VAULT, "a", ("ann", "bob", "cy"))
        goals = (("a", 0, ("ann", "bob", "cy")), ALL[0])
        self.assertEqual(self.boxes(vault, goals, (("new", (2, 3)), ("new", ()))), [(4, (3,)), (MEMO, (4,)), (4, (2,))])
        alone = (("a", 0, ("ann", "bob", "cy")),)
        self.assertEqual(self.boxes(vault, alone, (("new", (2, 3)),)), [(4, (2,)), (4, (3,))])

    def test_readers_change_behind_the_first_box_if_all_reach_who_comes(self):
        vault = begun(THREE, "memo", ("ann",))
        vault = turned(vault, (("memo", 0, ("ann",)),), (("new", (0,)),))
        rows = list(stops_of(vault, ALL, (("on", (1, 2)),)))
        self.assertEqual([row[2][0][1] for row in rows], [((("ann", "bob"), 3),), ((("ann", "bob", "cy"), 3),)])

    def test_readers_change_behind_the_last_box_of_the_first_two_sorts(self):
        # bob, who comes to memo again, has its lead already; the boxes of plan have to be put.
        gone = begun(went(VAULT, "memo", 0, "bob"), "plan", ("ann", "cy"))
        goals = (BOTH[0], ("plan", 0, ("ann", "cy")))
        rows = list(stops_of(gone, goals, (("on", ()), ("new", (0, 2)))))
        self.assertEqual([row[3][-1] for row in rows], [("put", (4, (0,))), ("put", (4, (2,)))])
        self.assertEqual([row[2][0][1] for row in rows], [((("ann",), 3),), ((("ann", "bob"), 3),)])
        # With boxes of the third sort behind them, who has the lead by then reads from there on.
        goals = (BOTH[0], ("plan", 0, ("ann", "bob", "cy")))
        rows = list(stops_of(gone, goals, (("on", ()), ("new", (2, 3)))))
        self.assertEqual([row[3][-1] for row in rows], [("put", (4, (2,))), ("put", (4, (3,)))])
        self.assertEqual([[side[1][0][0] for side in row[2]] for row in rows],
                         [[("ann", "bob"), ("ann", "cy")], [("ann", "bob"), ("ann", "bob", "cy")]])

    def test_leads_of_goals_done_before(self):
        vault = begun(THREE, "plan", ("cy",))
        vault = turned(vault, (("plan", 0, ("cy",)),), (("new", (2,)),))
        both = begun(vault, "memo", ("ann", "bob"))
        goals = (("memo", 0, ("ann", "bob", "cy")), ("plan", 0, ("ann", "bob", "cy")))
        rows = list(stops_of(both, goals, (("new", (3,)), ("on", (0, 1)))))
        self.assertEqual([row[3][-1] for row in rows], [("put", (3, (0,))), ("put", (3, (1,))), ("put", (4, (3,)))])
        self.assertEqual([row[2][1][1] for row in rows], [((("ann", "cy"), 3),), ((("ann", "bob", "cy"), 3),),
                                                          ((("ann", "bob", "cy"), 3),)])

    def test_sides_are_turned_one_at_a_time(self):
        goals = (("memo", 1, ("ann", "bob", "cy")),)
        behind = turned(TWO_SIDES, goals, (("new", (0, 4)),))
        self.assertEqual(behind[2][0], ("memo", ((("ann", "bob"), 3), (("ann", "bob", "cy"), 6)),
                                        ((("ann", "bob"), ("ann", "bob", "cy")),)))
        self.assertEqual(puts(behind[3])[5:], [(6, (4,)), (MEMO, (3, 6)), (6, (0,))])
        self.assertTrue(is_good(behind, "memo", 0) and is_good(behind, "memo", 1))

    def test_barred(self):
        for value in WRONG + (deep(40), list(BOTH), (("memo", 0, ("ann",)),), (("memo", 9, ("ann", "bob")),), BOTH + BOTH):
            if value != () or type(value) is not tuple:
                self.barred("goals", VAULT, value, (("on", ()),))
                self.barred("goals", VAULT, value, value)
        for value in WRONG + (deep(40), (("on", (2,)),), (("new", (2,)),), [("on", ())], (("on", []),), (("on", ()), ("on", ()))):
            self.barred("plan", VAULT, BOTH, value)
        self.barred("plan", VAULT, (), (("on", ()),))
        self.barred("plan", leaked(VAULT, 0), BOTH, (("on", ()),))
        self.barred("goals", leaked(TWO_SIDES, 0), (("memo", 1, ("ann", "bob", "cy")),), (("on", (0,)),))

    def test_barred_values_changed_at_one_place(self):
        for value in variants(ALL):
            if not are_goals(VAULT, value):
                self.barred("goals", VAULT, value, (("on", (2,)),))
        for value in variants((("new", (2, 3)),)):
            if isinstance(plan_error(VAULT, ALL, value), tuple):
                self.barred("plan", VAULT, ALL, value)
            else:
                self.assertEqual(turned(VAULT, ALL, value), stops(VAULT, ALL, value)[-1])

    def test_stops_of_is_a_generator(self):
        self.assertTrue(inspect.isgeneratorfunction(stops_of))
        self.assertEqual(next(stops_of(VAULT, ALL, (("on", (2,)),)))[3][-1], ("put", (3, (2,))))

    def test_word_by_word(self):
        found = set()
        for seed in range(120):
            rng = random.Random(seed)
            for vault in [some_vault(seed)] + [vault for _, vault in led(seed)][::4]:
                goals = some_goals(rng, vault) if vault[1] else ()
                plan = some_plan(rng, vault, goals) if are_goals(vault, goals) else None
                if plan is None:
                    continue
                rows = stops(vault, goals, plan)
                got = list(stops_of(vault, goals, plan))
                self.assertEqual(turned(vault, goals, plan), rows[-1])
                self.assertEqual(got, rows if len(rows[-1][3]) > len(vault[3]) else [], repr((vault, goals, plan)))
                for row in rows:
                    self.assertEqual(lets_vault(row), (len(vault[1]), len(vault[2])))
                found.add((len(goals), len(got)))
        self.assertLessEqual({(0, 0), (1, 0), (1, 1), (1, 2), (1, 3), (2, 2), (2, 3), (2, 4), (3, 3), (3, 4)}, found)

    def test_arguments_by_name(self):
        plan = (("on", (2,)),)
        self.assertEqual([turned(plan=plan, goals=ALL, vault=VAULT)], list(stops_of(plan=plan, goals=ALL, vault=VAULT)))

    def test_taken_boxes_are_put_anew(self):
        off = VAULT[:3] + (VAULT[3] + (("take", 2),),)
        self.assertEqual(self.boxes(off, ALL, (("on", (2,)),)), [(MEMO, (3,)), (3, (2,))])
        self.assertEqual(told(taken, off, 2), ("InvalidStep", ("take", 2), "box"))
