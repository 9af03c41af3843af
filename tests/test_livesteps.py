"""Steps by kind and logs ([62], [63])."""

import unittest

from sealshelf.errors import InvalidStep
from sealshelf.livesteps import is_step
from sealshelf.livevaults import Vault
from sealshelf.replaying import is_log, replayed
from tests import naivelive
from tests.making import WRONG, deep, told, variants
from tests.naivelive import led_log

STEPS = (("come", "ann"), ("begin", "memo", (("ann",),)), ("begin", "memo", (("ann", "bob"), ("bob",))),
         ("go", "memo", 0, "ann"), ("leak", 0), ("renew", "ann"), ("look", "ann", 0), ("take", 0), ("write", "memo"),
         ("turn", (("memo", 0, ("ann",)),), (("new", (0,)),)), ("turn", (), ()),
         ("stop", (("a", 1, ("ann", "bob")), ("b", 0, ("ann",))), (("on", ()), ("new", (0, 5))), 1), ("stop", (), (), 0))


class LiveSteps(unittest.TestCase):
    def test_steps(self):
        for step in STEPS:
            self.assertIs(is_step(step), True, repr(step))

    def test_by_kind_alone(self):
        # Names of nobody, keys and boxes of the future, orders and repetitions do not matter.
        for step in (("come", "world"), ("come", "come"), ("begin", "world", (("bob", "ann"),)),
                     ("begin", "a", (("ann", "ann"), ("world",))), ("go", "a", 9, "world"), ("leak", 10 ** 59),
                     ("turn", (("b", 7, ("bob", "ann")), ("a", 0, ("x", "x"))), (("on", (3, 1)), ("new", (1, 1)))),
                     ("stop", (), (), 99)):
            self.assertIs(is_step(step), True, repr(step))

    def test_no_steps(self):
        for value in WRONG + (deep(40), ("come",), ("come", "ann", "bob"), ("come", "Ann"), ["come", "ann"], ("Come", "ann"),
                              ("begin", "memo"), ("begin", "memo", ()), ("begin", "memo", ((),)), ("begin", "memo", (("ann",),) * 3),
                              ("begin", "memo", ("ann",)), ("begin", "memo", (["ann"],)), ("begin", "memo", [("ann",)]),
                              ("begin", "memo", ("ann",), ("bob",)), ("go", "memo", True, "ann"), ("go", "memo", -1, "ann"),
                              ("go", "memo", 0), ("leak", False), ("leak", -1), ("leak", "0"), ("look", 0, "ann"), ("take", None),
                              ("write", ("memo", 0)), ("turn", ()), ("turn", (("memo", 0, ("ann",)),), ()),
                              ("turn", (), (("on", ()),)), ("turn", (("memo", 0, ()),), (("on", ()),)),
                              ("turn", (("memo", 0, ("ann",)),), (("off", ()),)), ("turn", (("memo", 0, ("ann",)),), (["on", ()],)),
                              ("turn", (("memo", 0, ("ann",)),), (("on", [0]),)), ("turn", (("memo", 0, ("ann",)),), ((None, ()),)),
                              ("turn", (("memo", 0, ("ann",)),), ((["on"], ()),)), ("turn", (("memo", 0, ("ann",)),), (("on", (True,)),)),
                              ("stop", (), ()), ("stop", (), (), True), ("stop", (), (), -1), ("stop", 1, (), ()),
                              ("turn", (), (), 1), (("come",), "ann"), (None, "ann"), ("put", (0, (1,))), ("open", "ann", 0), ("",)):
            self.assertIs(is_step(value), False, repr(value))

    def test_changed_at_one_place(self):
        for step in STEPS:
            for value in variants(step):
                self.assertIs(is_step(value), naivelive.is_step(value), repr(value))

    def test_values_that_hold_a_vault(self):
        vault = Vault()
        for value in (vault, (vault,), ("come", vault), ("begin", "a", (vault,)), ("turn", (vault,), (vault,))):
            self.assertIs(is_step(value), False)
            self.assertEqual(vault.barred(value), "shape")


class Replaying(unittest.TestCase):
    def test_logs(self):
        self.assertEqual([is_log(()), is_log(STEPS), is_log(STEPS * 3)], [True] * 3)
        for value in WRONG + (deep(40), list(STEPS), STEPS + (None,), STEPS[0], (list(STEPS[0]),)):
            self.assertIs(is_log(value), value == () and type(value) is tuple, repr(value))

    def test_replayed(self):
        log = (("come", "ann"), ("begin", "memo", (("ann",),)), ("turn", (("memo", 0, ("ann",)),), (("new", (0,)),)))
        vault = replayed(log)
        self.assertIs(type(vault), Vault)
        self.assertEqual([vault.log(), vault.counts(), vault.leads("memo")], [log, (0, 0), (1,)])
        self.assertEqual([replayed(()).log(), replayed(()) == Vault(), replayed(()).counts()], [(), True, (0, 0)])

    def test_first_barred_step(self):
        for log, step, word in (((("come", "ann"), ("come", "ann"), ("come", "world")), ("come", "ann"), "there"),
                                ((("come", "ann"), ("leak", 1), None), ("leak", 1), "key"),
                                ((None, ("leak", 1)), None, "shape"),
                                ((("come", "ann"), ("stop", (), (), 0)), ("stop", (), (), 0), "many")):
            with self.assertRaises(InvalidStep) as caught:
                replayed(log)
            self.assertEqual((caught.exception.step, caught.exception.word), (step, word))

    def test_drawn_logs(self):
        for seed in range(60):
            log, vault = led_log(seed)
            self.assertTrue(is_log(log))
            self.assertEqual([replayed(log).present, replayed(log).log(), replayed(log) == replayed(log)], [vault, log, True])
            # A step less or more makes another log.
            self.assertEqual(told(replayed, log + (("come", "ann"),)), ("InvalidStep", ("come", "ann"), "there"))
            self.assertFalse(replayed(log) == replayed(log[:-1]))

    def test_arguments_by_name(self):
        self.assertEqual([is_step(thing=STEPS[0]), is_log(thing=()), replayed(log=STEPS[:1]).holders()], [True, True, ("ann",)])
