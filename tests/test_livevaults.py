"""Vaults that are led by steps: what they do and tell ([62] to [68], [72], [76])."""

import random
import unittest

from sealshelf.errors import InvalidStep, InvalidText, Locked, NothingToUndo, UnknownHolder
from sealshelf.kinds import is_shelf
from sealshelf.livevaults import Vault
from sealshelf.planchecker import lets_plan
from sealshelf.replaying import replayed
from sealshelf.rings import Ring
from sealshelf.soundness import is_sound
from sealshelf.steprows import log_rows
from sealshelf.turnstops import stops_of
from sealshelf.vaultchecker import lets_vault
from sealshelf.vaultsteps import fresh_vault
from tests import naivelive
from tests.making import WRONG, deep, told, variants
from tests.naive import pair, parts_of
from tests.naivelive import led_log, told_by, who_had
from tests.naivetimes import WORDS, had
from tests.naiveturns import are_goals, fewest, led, plan_error, records_of, some_goals, some_plan, some_step
from tests.naivevaults import MEMO, VAULT, texts_of

FIRST = (("come", "ann"), ("come", "bob"), ("come", "cy"), ("begin", "memo", (("ann", "bob"),)),
         ("turn", (("memo", 0, ("ann", "bob")),), (("new", (0, 1)),)), ("write", "memo"))
ALL = (("memo", 0, ("ann", "bob", "cy")),)
STOP = ("stop", ALL, (("new", (2, 3)),), 1)
READING = ("due_goals", "holders", "records", "shelf", "lying", "needless", "room", "boxes", "exposed", "table")


def first():
    return replayed(FIRST)


def state(vault):
    """All that a Vault tells of itself without arguments."""
    return {**{name: getattr(vault, name)() for name in READING}, "log": vault.log(), "present": vault.present,
            "counts": vault.counts(), "text": str(vault), "len": len(vault)}


class LiveVaults(unittest.TestCase):
    def barred(self, step, word, call, *arguments):
        with self.assertRaises(InvalidStep) as caught:
            call(*arguments)
        self.assertEqual((caught.exception.step, caught.exception.word), (step, word))
        self.assertEqual(repr(caught.exception.step), repr(step))

    def test_example(self):
        vault = Vault()
        self.assertEqual([vault.come("ann"), vault.come("bob"), vault.begin("memo", ("ann", "bob")), vault.due_goals()],
                         [0, 1, None, (("memo", 0, ("ann", "bob")),)])
        self.assertEqual([vault.turn_for(vault.due_goals()), vault.boxes(), vault.write("memo"), vault.leads("memo")],
                         [2, ((2, (0,)), (2, (1,))), ("memo", 0), (2,)])
        self.assertEqual([vault.leave("memo", 0, "bob"), vault.barred(("write", "memo")), vault.turn_for(vault.due_goals()),
                          vault.write("memo")], [None, "lead", 1, ("memo", 1)])
        self.assertEqual([vault.who_had(("memo", 0), "copied"), vault.who_had(("memo", 1), "copied"), vault.had(("ann",), "now")],
                         [("ann", "bob"), ("ann",), ((0, 2, 3), (("memo", 0), ("memo", 1)))])
        self.assertEqual([vault.leak(2), vault.exposed(), vault.needless(), vault.room(), vault.table()],
                         [None, (("memo", 0),), (0, 1, 2), 5, ["memo  memo.1  ann=3  good"]])
        self.barred(("take", 4), "open", vault.take, 4)

    def test_a_vault_without_steps(self):
        vault = Vault()
        self.assertEqual(state(vault), {"due_goals": (), "holders": (), "records": (), "shelf": ((), ()), "lying": (),
                                        "needless": (), "room": 0, "boxes": (), "exposed": (), "table": [], "log": (),
                                        "present": fresh_vault(), "counts": (0, 0), "text": "-", "len": 0})
        self.assertEqual([vault.had((), "now"), vault.had(("world",), "copied"), "memo" in vault, vault.tried(),
                          vault == Vault(), vault == Vault.read("")], [((), ()), ((), ()), False, ((), 0), True, True])

    def test_answers(self):
        vault = Vault()
        self.assertEqual([vault(step) for step in FIRST], [0, 1, 2, None, 2, MEMO])
        self.assertEqual([vault.look("ann", 0), vault.look("ann", 2), vault.renew("cy"), vault.leak(0), vault.come("dee")],
                         [3, MEMO, 4, None, 5])
        self.assertEqual([vault.turn((), ()), vault.turn_for(())], [0, 0])
        self.assertEqual(first().present, VAULT)

    def test_each_method_does_its_step(self):
        vault = Vault()
        answers = [vault.come("ann"), vault.come("bob"), vault.come("cy"), vault.begin("memo", ("ann", "bob")),
                   vault.turn((("memo", 0, ("ann", "bob")),), (("new", (0, 1)),)), vault.write("memo"),
                   vault.stop(*STOP[1:]), vault.leave("memo", 0, "bob"), vault.take(1), vault.renew("bob"), vault.look("ann", 0),
                   vault.leak(1), vault.begin("two", ("cy",), ("ann", "cy"))]
        log = FIRST + (STOP, ("go", "memo", 0, "bob"), ("take", 1), ("renew", "bob"), ("look", "ann", 0), ("leak", 1),
                       ("begin", "two", (("cy",), ("ann", "cy"))))
        self.assertEqual([vault.log(), answers], [log, [0, 1, 2, None, 2, MEMO, None, None, None, 5, 3, None, None]])
        other = Vault()
        self.assertEqual([other.go(step) for step in log], answers)
        self.assertEqual([other.present, other == vault], [vault.present, True])

    def test_barred_by_shape(self):
        vault = first()
        before = state(vault)
        for value in WRONG + (deep(40), ("come",), ["come", "ann"], ("begin", "a", ()), ("take", True), ("turn", (), (("on", ()),)),
                              ("stop", (), ()), ("go", "memo", False, "ann"), vault, (vault,), {}, 1.5):
            self.assertEqual(vault.barred(value), "shape")
            self.barred(value, "shape", vault.go, value)
            self.barred(value, "shape", vault, value)
        for call, step in ((vault.come, ("come", None)), (vault.begin, ("begin", "a")), (vault.renew, ("renew", ["ann"])),
                           (vault.leak, ("leak", -1)), (vault.take, ("take", True)), (vault.write, ("write", MEMO)),
                           (vault.leave, ("go", "memo", None, "ann")), (vault.look, ("look", "ann", "0")),
                           (vault.turn, ("turn", None, None)), (vault.stop, ("stop", (), (), -1))):
            wanted = ("begin", "a", ()) if step[0] == "begin" else step
            self.barred(wanted, "shape", call, *step[1:])
        self.barred(("begin", "a", (("ann",), ["bob"])), "shape", vault.begin, "a", ("ann",), ["bob"])
        self.assertEqual({**state(vault), "counts": None}, {**before, "counts": None})

    def test_barred_by_each_word(self):
        vault = first()
        pairs = [(("come", "world"), "name"), (("come", "ann"), "there"), (("begin", "memo", (("zoe",),)), "there"),
                 (("begin", "a", (("zoe",),)), "sides"), (("begin", "a", (("bob", "ann"),)), "sides"),
                 (("go", "a", 0, "ann"), "record"), (("go", "memo", 1, "ann"), "side"), (("go", "memo", 0, "cy"), "reader"),
                 (("leak", 4), "key"), (("renew", "zoe"), "holder"), (("look", "zoe", 9), "holder"), (("look", "ann", 3), "box"),
                 (("look", "cy", 0), "keys"), (("take", 3), "box"), (("take", 0), "open"), (("write", "a"), "record"),
                 (("turn", (("memo", 0, ("ann",)),), (("on", ()),)), "goals"), (("turn", ALL, (("on", ()),)), "plan"),
                 (("stop", (("memo", 0, ("ann",)),), (("on", ()),), 0), "goals"), (("stop", ALL, (("on", ()),), 0), "plan"),
                 (("stop", ALL, (("on", (2,)),), 0), "many"), (("stop", ALL, (("on", (2,)),), 1), "many"),
                 (("stop", ALL, (("new", (2, 3)),), 3), "many"), (("stop", ALL, (("new", (2, 3)),), 0), "many"),
                 (("stop", (), (), 0), "many"), (("stop", (), (), 1), "many")]
        before = state(vault)
        for k, (step, word) in enumerate(pairs):
            self.assertEqual(vault.barred(step), word, repr(step))
            self.assertEqual(state(vault), {**before, "counts": (k, k)})
            self.barred(step, word, vault.go, step)
            self.assertEqual(state(vault), {**before, "counts": (k + 1, k + 1)})
        for step in (("take", 2), ("write", "memo")):
            self.assertEqual(told(vault.barred, step), None if step[0] == "write" else "open")
        vault.leave("memo", 0, "bob")
        self.assertEqual([vault.barred(step) for step in (("go", "memo", 0, "ann"), ("write", "memo"), ("take", 1))],
                         ["last", "lead", None])

    def test_stop(self):
        for many in (1, 2):
            vault = first()
            self.assertIsNone(vault.stop(ALL, (("new", (2, 3)),), many))
            self.assertEqual(vault.present, list(stops_of(VAULT, ALL, (("new", (2, 3)),)))[many - 1])
            self.assertTrue(is_sound(vault.present))
            self.assertEqual([vault.leads("memo"), vault["memo"], vault.present[0]], [(3,), (("ann", "bob"),), 5])
            # Done anew, its boxes stay, and the lead may not: it is among the keys of another box now.
            self.assertEqual([vault.turn_for(ALL), vault.is_good("memo", 0), vault.leads("memo")], [3, True, (5,)])
            self.assertEqual([vault["memo"], vault.room()], [(("ann", "bob", "cy"),), 6 + many])

    def test_turn_for(self):
        vault = first()
        self.assertEqual([vault.turn_for(ALL), vault.log()[-1]], [1, ("turn", ALL, (("on", (2,)),))])
        before = state(vault)
        for value in WRONG + (deep(40), list(ALL), (("memo", 0, ("ann",)),), (("memo", True, ("ann", "bob", "cy")),), ALL + ALL):
            if value != () or type(value) is not tuple:
                self.barred(("turn", value), "goals", vault.turn_for, value)
        vault.leak(0)
        self.barred(("turn", ALL), "none", vault.turn_for, ALL)
        vault.undo()
        self.assertEqual({**state(vault), "counts": before["counts"]}, before)

    def test_turn_for_has_the_fewest_boxes(self):
        for seed in range(60):
            rng = random.Random(seed)
            log, present = led_log(seed)
            vault = replayed(log)
            goals = some_goals(rng, present)
            if are_goals(present, goals):
                number = fewest(present, goals)
                if number is None:
                    self.assertEqual(told(vault.turn_for, goals), ("InvalidStep", ("turn", goals), "none"))
                else:
                    self.assertEqual(vault.turn_for(goals), number)
                    self.assertEqual(vault.log()[-1][:2], ("turn", goals))
                    self.assertEqual(plan_error(present, goals, vault.log()[-1][2]), number)

    def test_due_goals(self):
        vault = first()
        self.assertEqual(vault.due_goals(), ())
        vault.begin("two", ("cy",), ("ann", "cy"))
        self.assertEqual(vault.due_goals(), (("two", 0, ("cy",)),))
        vault.leave("memo", 0, "ann")
        self.assertEqual(vault.due_goals(), (("memo", 0, ("bob",)), ("two", 0, ("cy",))))
        self.assertEqual(vault.turn_for(vault.due_goals()), 2)
        self.assertEqual(vault.due_goals(), (("two", 1, ("ann", "cy")),))
        self.assertEqual([vault.turn_for(vault.due_goals()), vault.due_goals()], [2, ()])
        self.assertEqual([vault.write("two"), vault.write("memo")], [("two", 0), ("memo", 1)])

    def test_what_is_told_of_holders_and_records(self):
        vault = first()
        vault.begin("a", ("cy",), ("ann", "bob"))
        vault.renew("bob")
        self.assertEqual([vault.holders(), vault.records(), [vault.own_key(name) for name in vault.holders()]],
                         [("ann", "bob", "cy"), ("a", "memo"), [0, 4, 2]])
        self.assertEqual([vault["a"], vault.leads("a"), vault.newest("a"), vault.is_good("a", 1)],
                         [(("cy",), ("ann", "bob")), (None, None), None, False])
        self.assertEqual([vault["memo"], vault.leads("memo"), vault.newest("memo"), vault.is_good("memo", 0), len(vault)],
                         [(("ann", "bob"),), (3,), MEMO, True, 2])
        vault.write("memo")
        self.assertEqual(vault.newest("memo"), ("memo", 1))

    def test_no_record_and_no_holder(self):
        vault = first()
        for value in WRONG + (deep(40), "ann", ["memo"], ("memo",), ("memo", "memo"), slice(0, 1), 0.5, vault, Ring(1), {}):
            if value == "memo":
                continue
            for call in (lambda: vault[value], lambda: vault.leads(value), lambda: vault.newest(value)):
                self.barred(("record", value), "record", call)
            self.assertIs(value in vault, False)
        self.assertIs("memo" in vault, True)
        for value in WRONG + (deep(40), "world", ["ann"], ("ann",), vault):
            with self.assertRaises(UnknownHolder) as caught:
                vault.own_key(value)
            self.assertEqual(repr(caught.exception.holder), repr(value))

    def test_not_iterated(self):
        with self.assertRaises(TypeError):
            list(first())

    def test_shelf(self):
        vault = first()
        vault.renew("ann")
        vault.leave("memo", 0, "bob")
        vault.take(1)
        self.assertEqual(vault.shelf(), ((("ann", (0, 4)), ("bob", (1,)), ("cy", (2,))), ((3, (0,)), (MEMO, (3,)))))
        self.assertTrue(is_shelf(vault.shelf()))
        self.assertEqual([vault.lying(), vault.room(), vault.boxes()], [(0, 2), 2, VAULT[3][3][1:] + VAULT[3][4][1:] + VAULT[3][5][1:]])

    def test_needless(self):
        vault = first()
        self.assertEqual(vault.needless(), ())
        vault.turn((("memo", 0, ("ann", "bob")),), (("new", (0, 1)),))
        vault.write("memo")
        self.assertEqual(vault.needless(), (0, 1, 2))
        # Two ways to one lead are needless each, but not together.
        vault.do_all(("renew", "ann"), ("begin", "a", (("ann",),)), ("turn", (("a", 0, ("ann",)),), (("new", (0, 5)),)))
        self.assertEqual(vault.needless(), (0, 1, 2, 6, 7))
        vault.take(6)
        self.assertEqual(vault.needless(), (0, 1, 2))

    def test_had_and_who_had(self):
        vault = first()
        vault.look("bob", 1)
        self.assertEqual([vault.had(("bob",), word) for word in WORDS],
                         [((1, 3), (MEMO,)), ((1, 3), (MEMO,)), ((1, 3), (MEMO,)), ((1, 3), ())])
        self.assertEqual([vault.who_had(MEMO, word) for word in WORDS], [("ann", "bob")] * 3 + [()])
        vault.leak(0)
        vault.come("zoe")
        self.assertEqual([vault.who_had(MEMO, "copied"), vault.had(("cy", "world"), "now")],
                         [("ann", "bob", "world"), ((0, 2, 3), (MEMO,))])
        vault.do_all(("begin", "a", (("zoe",),)), ("turn", (("a", 0, ("zoe",)),), (("new", (4,)),)), ("write", "a"), ("leak", 4))
        self.assertEqual(vault.who_had(("a", 0), "copied"), ("world", "zoe"))
        for value in WRONG + (deep(40), ("memo", 1), ("memo", False), ["memo", 0], 0, 3):
            if value == MEMO and type(value) is tuple and type(value[1]) is int:
                continue
            with self.assertRaises(Locked) as caught:
                vault.who_had(value, "now")
            self.assertEqual(repr(caught.exception.thing), repr(value))
        for group in (("dee",), ("ann", "ann"), (None,), ("ann", ["bob"]), (vault,)):
            with self.assertRaises(UnknownHolder) as caught:
                vault.had(group, "copied")
            self.assertEqual(repr(caught.exception.holder), repr(group[-1]))

    def test_had_at_the_last_moment(self):
        for seed in range(30):
            log, present = led_log(seed)
            vault = replayed(log)
            for word in WORDS:
                for group in parts_of(sorted([name for name, _ in present[1]] + ["world"])):
                    self.assertEqual(vault.had(group, word), pair(had(present[3], group, len(present[3]), word)))
                for text in texts_of(present):
                    self.assertEqual(vault.who_had(text, word), who_had(present, text, word))

    def test_table(self):
        vault = first()
        vault.do_all(("begin", "a", (("ann", "bob", "cy"), ("cy",))), ("begin", "longname", (("bob",),)))
        self.assertEqual(vault.table(), ["a         -       ann,bob,cy=- cy=-  due", "longname  -       bob=-              due",
                                         "memo      memo.0  ann,bob=3          good"])
        self.assertIs(type(vault.table()), list)
        vault.turn_for((("a", 1, ("cy",)),))
        self.assertEqual(vault.table()[0], "a         -       ann,bob,cy=- cy=4  due")
        vault.turn_for(vault.due_goals())
        self.assertEqual([row.split("  ")[-1] for row in vault.table()], ["good"] * 3)

    def test_text_and_log(self):
        vault = first()
        self.assertEqual(str(vault), " / ".join(log_rows(FIRST)))
        self.assertEqual([str(Vault()), vault.log(), type(vault.log())], ["-", FIRST, tuple])
        vault.turn_for(())
        self.assertTrue(str(vault).endswith(" / write memo / turn -"))


class Undoing(unittest.TestCase):
    def test_undo_behind_each_kind_of_step(self):
        kinds = set()
        for seed in range(40):
            log, _ = led_log(seed)
            vault = Vault()
            states = [state(vault)]
            for step in log:
                vault.replay((step,))
                states.append(state(vault))
            for step in log[::-1]:
                self.assertEqual(vault.undo(), step)
                states.pop()
                self.assertEqual({**state(vault), "counts": (0, 0)}, states[-1])
                kinds.add(step[0])
            with self.assertRaises(NothingToUndo) as caught:
                vault.undo()
            self.assertEqual([caught.exception.count, vault.counts()], [0, (len(log) + 1,) * 2])
        self.assertEqual(len(kinds), 10)

    def test_undo_and_do_anew(self):
        vault = first()
        vault.go(STOP)
        wanted = vault.present
        self.assertEqual([vault.undo(), vault.present, vault.go(STOP), vault.present], [STOP, VAULT, None, wanted])
        self.assertEqual(vault.undo(), STOP)
        self.assertEqual([vault.undo(), vault.write("memo"), vault.log()], [("write", "memo"), MEMO, FIRST])

    def test_nothing_to_undo(self):
        for vault in (Vault(), Vault.read("")):
            with self.assertRaises(NothingToUndo) as caught:
                vault.undo()
            self.assertEqual([caught.exception.count, vault.counts(), vault.log()], [0, (1, 1), ()])


class Trials(unittest.TestCase):
    def test_tried(self):
        vault = first()
        before = state(vault)
        self.assertEqual([vault.tried(), vault.tried(("leak", 0)), vault.tried(("write", "memo"), ("leak", 3)),
                          vault.tried(("leak", 2), ("go", "memo", 0, "bob"), ("take", 1))],
                         [((), 3), ((MEMO,), 3), ((MEMO, ("memo", 1)), 4), ((), 2)])
        self.assertEqual(state(vault), before)

    def test_tried_with_a_barred_step(self):
        vault = first()
        before = state(vault)
        for steps, step, word in (((("leak", 9),), ("leak", 9), "key"), ((("write", "memo"), None, ("leak", 9)), None, "shape"),
                                  ((("leak", 0), ("write", "memo")), ("write", "memo"), "lead"),
                                  ((("go", "memo", 0, "bob"), ("take", 1), ("take", 1)), ("take", 1), "box")):
            with self.assertRaises(InvalidStep) as caught:
                vault.tried(*steps)
            self.assertEqual((caught.exception.step, caught.exception.word), (step, word))
            self.assertEqual(state(vault), before)

    def test_do_all(self):
        vault = Vault()
        self.assertEqual([vault.do_all(*FIRST), vault.log(), vault.counts()], [6, FIRST, (1, 1)])
        self.assertEqual([vault.do_all(), vault.log(), vault.counts()], [0, FIRST, (2, 2)])
        steps = (("leak", 2), ("write", "memo"), ("take", 0), ("leak", 0))
        before = state(vault)
        with self.assertRaises(InvalidStep) as caught:
            vault.do_all(*steps)
        self.assertEqual((caught.exception.step, caught.exception.word), (("take", 0), "open"))
        self.assertEqual(state(vault), {**before, "counts": (3, 3)})
        with self.assertRaises(InvalidStep) as caught:
            vault.do_all(*steps, keep=False)
        self.assertEqual(state(vault), {**before, "counts": (4, 4)})
        with self.assertRaises(InvalidStep) as caught:
            vault.do_all(*steps, keep=True)
        self.assertEqual((caught.exception.step, caught.exception.word), (("take", 0), "open"))
        self.assertEqual([vault.log(), vault.counts(), vault.newest("memo")], [FIRST + steps[:2], (5, 5), ("memo", 1)])
        self.assertEqual([vault.do_all(("leak", 0), keep=True), vault.do_all(keep=True), vault.log()],
                         [1, 0, FIRST + steps[:2] + (("leak", 0),)])
        self.assertEqual(told(vault.do_all, None, keep=True), ("InvalidStep", None, "shape"))

    def test_first_step_barred(self):
        for keep in (True, False):
            vault = first()
            before = state(vault)
            self.assertEqual(told(vault.do_all, ("leak", 9), ("leak", 0), keep=keep), ("InvalidStep", ("leak", 9), "key"))
            self.assertEqual(state(vault), {**before, "counts": (1, 1)})


class Counting(unittest.TestCase):
    def test_counts(self):
        vault = Vault()
        calls = [lambda: vault.come("ann"), lambda: vault.come("ann"), lambda: vault.go(None), lambda: vault(("leak", 0)),
                 lambda: vault(7), lambda: vault.undo(), lambda: vault.begin("memo", ("ann",)), lambda: vault.turn_for(vault.due_goals()),
                 lambda: vault.turn_for(None), lambda: vault.turn((), ()), lambda: vault.turn(None, None),
                 lambda: vault.stop((), (), 0), lambda: vault.do_all(("leak", 0), ("renew", "ann")), lambda: vault.do_all(None),
                 lambda: vault.do_all(), lambda: vault.do_all(("renew", "ann"), None, keep=True), lambda: vault.renew("bob"),
                 lambda: vault.look("ann", 0), lambda: vault.take(9), lambda: vault.write("memo"),
                 lambda: vault.leave("memo", 0, "ann"), lambda: vault.leak(True), lambda: vault.undo()]
        for k, call in enumerate(calls):
            self.assertEqual(vault.counts(), (k, k))
            told(call)
        self.assertEqual(vault.counts(), (len(calls), len(calls)))
        many = vault.counts()
        for call in (lambda: vault.barred(("come", "bob")), lambda: vault.barred(None), lambda: vault.tried(("come", "bob")),
                     lambda: vault.tried(None), lambda: vault["x"], lambda: vault.own_key(0), lambda: vault == 0, lambda: str(vault),
                     vault.needless, vault.table, vault.log, vault.counts, vault.due_goals, lambda: vault.who_had(0, "now")):
            told(call)
            self.assertEqual(vault.counts(), many)

    def test_undone_and_emptied(self):
        vault = Vault()
        for _ in range(3):
            vault.come("ann")
            vault.undo()
            told(vault.undo)
        self.assertEqual([vault.counts(), vault.log()], [(9, 9), ()])

    def test_making_is_not_counted(self):
        for vault in (Vault(), Vault.read("come ann\ncome bob"), first()):
            self.assertEqual(vault.counts(), (0, 0))
        self.assertEqual(told(Vault.read, "come ann\ncome ann"), ("InvalidStep", ("come", "ann"), "there"))


class Equality(unittest.TestCase):
    def test_equal_logs(self):
        vault, other = first(), Vault()
        self.assertEqual([vault == other, vault != other, other == Vault(), other != Vault()], [False, True, True, False])
        other.do_all(*FIRST)
        self.assertEqual([vault == other, vault != other, vault.counts() == other.counts()], [True, False, False])
        other.turn_for(())
        self.assertFalse(vault == other)
        other.undo()
        self.assertTrue(vault == other)

    def test_same_vault_by_another_log(self):
        vault, other = first(), first()
        vault.turn((), ())
        self.assertEqual([vault.present == other.present, vault == other, vault != other], [True, False, True])
        swapped = Vault()
        swapped.do_all(("come", "ann"), ("come", "bob"), ("begin", "a", (("ann",),)), ("begin", "b", (("ann",),)))
        again = Vault()
        again.do_all(("come", "ann"), ("come", "bob"), ("begin", "b", (("ann",),)), ("begin", "a", (("ann",),)))
        self.assertEqual([swapped.present == again.present, swapped == again], [True, False])

    def test_any_value(self):
        vault = first()
        for value in WRONG + (deep(40), vault.log(), list(vault.log()), str(vault), [vault], (vault,), ((vault,),), {"a": vault},
                              vault.present, Ring(0, 1), 1.5, object()):
            self.assertEqual([vault == value, value == vault, vault != value, value != vault, Vault() == value],
                             [False, False, True, True, False])
        self.assertEqual([[vault] == [first()], (vault, 1) == (first(), 1), [vault] == [Vault()], vault in [Vault(), first()],
                          (vault,) != (Vault(),)], [True, True, False, True, True])

    def test_equal_kinds_of_all_elements(self):
        # What equals a step but is of other kinds is no step.
        vault = first()
        for step in (("leak", True), ("leak", False), ("go", "memo", False, "ann"), ("stop", ALL, (("new", (2, 3)),), True),
                     ("turn", (("memo", False, ("ann", "bob")),), (("on", ()),)), ("turn", ALL, (("new", (2, True)),))):
            self.assertEqual(vault.barred(step), "shape")
        self.assertEqual(told(vault.turn_for, (("memo", False, ("ann", "bob")),)),
                         ("InvalidStep", ("turn", (("memo", False, ("ann", "bob")),)), "goals"))


class Reading(unittest.TestCase):
    def test_read(self):
        text = "\n".join(log_rows(FIRST))
        vault = Vault.read(text)
        self.assertEqual([type(vault), vault.log(), vault == first(), vault.counts()], [Vault, FIRST, True, (0, 0)])
        self.assertEqual([Vault.read(text="").log(), Vault.read("come ann").holders()], [(), ("ann",)])

    def test_texts_that_are_not_valid(self):
        for text, row, field in (("come ann\n", 1, 0), ("\n", 0, 0), ("\ncome ann", 0, 0), (" ", 0, 0), ("come ann\n\ncome bob", 1, 0),
                                 ("come ann\ncome ann\ncome", 2, 1), ("take 9\nturn memo 0 ann on", 1, 5), ("-", 0, 0),
                                 ("come ann / come bob", 0, 2), ("come ann\nbegin memo ann \n", 1, 3)):
            with self.assertRaises(InvalidText) as caught:
                Vault.read(text)
            self.assertEqual((caught.exception.row, caught.exception.field), (row, field), repr(text))

    def test_first_barred_step_behind_all_texts(self):
        for text, step, word in (("come ann\ncome ann\ncome world", ("come", "ann"), "there"), ("take 9", ("take", 9), "box"),
                                 ("come world", ("come", "world"), "name"), ("stop 0 -", ("stop", (), (), 0), "many")):
            self.assertEqual(told(Vault.read, text), ("InvalidStep", step, word))

    def test_drawn_vaults_are_read_again(self):
        for seed in range(40):
            log, present = led_log(seed)
            text = "\n".join(log_rows(log))
            vault = Vault.read(text)
            self.assertEqual([vault.log(), vault.present, "\n".join(log_rows(vault.log())), vault == replayed(log)],
                             [log, present, text, True])
            self.assertEqual(state(vault), state(replayed(log)))


class LedVaults(unittest.TestCase):
    def test_what_is_told_at_each_moment(self):
        for seed in range(40):
            vault = Vault()
            before = vault.present
            for step, present in led(seed):
                self.assertEqual(vault.go(step), naivelive.answer(before, step, present))
                self.assertEqual(vault.present, present)
                self.assertEqual({name: getattr(vault, name)() for name in READING}, told_by(present), repr(step))
                self.assertEqual(len(vault), len(present[2]))
                for record, (sides, texts) in records_of(present).items():
                    self.assertEqual([vault[record], vault.leads(record), vault.newest(record), record in vault],
                                     [tuple(readers for readers, _ in sides), tuple(lead for _, lead in sides),
                                      (record, len(texts) - 1) if texts else None, True])
                before = present
            self.assertEqual(len(vault.log()), vault.counts()[0])

    def test_drawn_values_as_steps(self):
        found = set()
        for seed in range(40):
            rng = random.Random(seed)
            log, present = led_log(seed)
            vault = replayed(log)
            steps = [some_step(rng, present, word) for word in ("begin", "go", "look", "take", "write", "renew", "leak", "come")]
            goals = some_goals(rng, present)
            plan = some_plan(rng, present, goals) if are_goals(present, goals) else None
            steps += [("turn", goals, plan), *(("stop", goals, plan, many) for many in range(4))]
            for step in steps + [value for step in steps[-2:] for value in variants(step)][::7]:
                wanted = naivelive.behind(present, step)
                if isinstance(wanted, str):
                    self.assertEqual([vault.barred(step), told(vault.go, step)], [wanted, ("InvalidStep", step, wanted)])
                    self.assertEqual(vault.present, present)
                    found.add(wanted)
                else:
                    self.assertIsNone(vault.barred(step))
                    self.assertEqual([vault.go(step), vault.present], [naivelive.answer(present, step, wanted), wanted])
                    self.assertEqual(vault.undo(), step)
        self.assertLessEqual({"shape", "goals", "plan", "many", "box", "keys", "open", "lead", "there", "record", "side", "reader",
                              "last"}, found)

    def test_sound_at_each_moment_whatever_is_stopped_undone_or_tried(self):
        stopped = 0
        for seed in range(60):
            rng = random.Random(seed)
            vault = Vault()
            for step, _ in led(seed, 15):
                told(vault.go, step)
                if rng.random() < 0.3:
                    told(vault.undo)
                if rng.random() < 0.5 and len(vault.holders()) > 1:
                    goals = some_goals(rng, vault.present)
                    plan = some_plan(rng, vault.present, goals) if are_goals(vault.present, goals) else None
                    number = 0 if plan is None else lets_plan(vault.present, goals, plan)
                    if number > 1:
                        vault.stop(goals, plan, rng.randrange(1, number))
                        stopped += 1
                self.assertTrue(is_sound(vault.present))
                self.assertEqual(lets_vault(vault.present), (len(vault.holders()), len(vault)))
                for text in texts_of(vault.present):
                    readers = texts_of(vault.present)[text]
                    if text not in vault.exposed():
                        self.assertTrue(all(name in side for name in vault.who_had(text, "copied") for side in readers))
            self.assertEqual(replayed(vault.log()), vault)
        self.assertGreater(stopped, 50)

    def test_turns_for_due_goals_make_all_records_ready(self):
        for seed in range(60):
            vault = replayed(led_log(seed, leaks=False)[0])
            for _ in range(2):
                vault.turn_for(vault.due_goals())
            self.assertEqual([vault.due_goals(), [vault.barred(("write", record)) for record in vault.records()]],
                             [(), [None] * len(vault)])

    def test_a_stopped_turn_is_done_anew(self):
        many = 0
        for seed in range(60):
            rng = random.Random(seed)
            vault = replayed(led_log(seed, leaks=False)[0])
            goals = some_goals(rng, vault.present)
            plan = some_plan(rng, vault.present, goals) if are_goals(vault.present, goals) else None
            number = 0 if plan is None else lets_plan(vault.present, goals, plan)
            for at in range(1, number):
                before = vault.room()
                vault.stop(goals, plan, at)
                self.assertEqual(vault.room(), before + at)
                # Those who read by now are due, too.
                again = tuple((record, side, tuple(sorted({*due, *vault[record][side]}))) for record, side, due in goals)
                if are_goals(vault.present, again):
                    self.assertGreaterEqual(vault.turn_for(again), 0)
                    self.assertTrue(all(vault.is_good(record, side) for record, side, _ in again))
                    vault.undo()
                    many += 1
                vault.undo()
        self.assertGreater(many, 20)

    def test_another_plan_with_the_fewest_boxes(self):
        # Both are sound, and each lead is had by the same holders.
        vault, other = first(), first()
        goals = (("memo", 0, ("ann", "bob")),)
        for one, plan in ((vault, (("new", (0, 1)),)), (other, (("new", (3,)),))):
            one.write("memo")
            one.turn(goals, plan)
        self.assertEqual([vault.leads("memo"), vault == other], [other.leads("memo"), False])
        for one in (vault, other):
            lead = one.leads("memo")[0]
            self.assertEqual([[lead in one.had((name,), "now")[0] for name in one.holders()], is_sound(one.present)],
                             [[True, True, False], True])

    def test_arguments_by_name(self):
        vault = Vault()
        self.assertEqual([vault.come(holder="ann"), vault.go(step=("come", "bob")), vault(step=("come", "cy")),
                          vault.begin("memo", ("ann", "bob")), vault.turn(plan=(("new", (0, 1)),), goals=(("memo", 0, ("ann", "bob")),)),
                          vault.write(record="memo"), vault.look(b=0, holder="ann"), vault.leave(holder="bob", side=0, record="memo"),
                          vault.take(b=1), vault.leak(key=1), vault.renew(holder="bob"), vault.barred(step=None),
                          vault.turn_for(goals=()), vault.own_key(holder="bob"), vault.leads(record="memo"), vault.newest(record="memo"),
                          vault.is_good(side=0, record="memo"), vault.had(word="now", group=("cy",)),
                          vault.who_had(word="now", thing=MEMO)],
                         [0, 1, 2, None, 2, MEMO, 3, None, None, None, 4, "shape", 0, 4, (3,), MEMO, False, ((2,), ()), ("ann",)])
        self.assertEqual(told(vault.stop, many=0, plan=(), goals=()), ("InvalidStep", ("stop", (), (), 0), "many"))

    def test_all_that_is_listed_stands_in_the_class(self):
        for name in ("read", "present", "__call__", "go", "come", "begin", "leave", "leak", "renew", "look", "take", "write", "turn",
                     "stop", "barred", "turn_for", "due_goals", "holders", "records", "own_key", "__getitem__", "leads", "newest",
                     "__contains__", "__len__", "is_good", "shelf", "lying", "needless", "room", "boxes", "had", "who_had", "exposed",
                     "__eq__", "__ne__", "__str__", "do_all", "tried", "undo", "log", "counts", "table", "__init__"):
            self.assertIn(name, vars(Vault))
        self.assertIsInstance(vars(Vault)["present"], property)
        self.assertIsInstance(vars(Vault)["read"], classmethod)
        with self.assertRaises(AttributeError):
            Vault().present = ()
