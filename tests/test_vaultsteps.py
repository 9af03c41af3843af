"""Steps on vaults ([6], [49])."""

import unittest

from sealshelf import vaultsteps
from sealshelf.errors import InvalidStep
from sealshelf.turnstops import turned
from sealshelf.vaultchecker import lets_vault
from sealshelf.vaultfacts import exposed, is_good, is_kept, outside, text_readers
from sealshelf.vaultsteps import begun, came, fresh_vault, leaked, looked, renewed, taken, went, written
from tests.making import WRONG, deep, told
from tests.naivevaults import MEMO, TWO_SIDES, VAULT

THREE = came(came(came(fresh_vault(), "ann"), "bob"), "cy")
FOUNDED = begun(THREE, "memo", ("ann", "bob"))
BOTH = (("memo", 0, ("ann", "bob")),)
VALUES = WRONG + (deep(40), ["ann"], ("ann",), "dee", 3.5)


class VaultSteps(unittest.TestCase):
    def barred(self, step, word, call, *arguments):
        with self.assertRaises(InvalidStep) as caught:
            call(*arguments)
        self.assertEqual((caught.exception.step, caught.exception.word), (step, word), repr(arguments))
        self.assertEqual(repr(caught.exception.step), repr(step))

    def test_example(self):
        self.assertEqual(written(turned(FOUNDED, BOTH, (("new", (0, 1)),)), "memo"), VAULT)
        self.assertEqual(renewed(VAULT, "bob")[:2], (5, (("ann", 0), ("bob", 4), ("cy", 2))))
        self.barred(("look", "cy", 0), "keys", looked, VAULT, "cy", 0)
        self.barred(("take", 1), "open", taken, VAULT, 1)
        self.barred(("write", "memo"), "lead", written, went(VAULT, "memo", 0, "bob"), "memo")
        self.assertEqual([exposed(VAULT), exposed(leaked(VAULT, 2)), exposed(leaked(VAULT, 0))], [(), (), (MEMO,)])
        self.assertEqual([is_good(VAULT, "memo", 0), is_kept(VAULT, 3, ("ann",)), outside(VAULT, ("ann",))],
                         [True, False, ((1, 2, 3), (MEMO,))])

    def test_fresh_vault(self):
        self.assertEqual(fresh_vault(), (0, (), (), ()))
        self.assertEqual(lets_vault(fresh_vault()), (0, 0))

    def test_came(self):
        self.assertEqual(came(fresh_vault(), "bob"), (1, (("bob", 0),), (), (("hand", "bob", 0),)))
        self.assertEqual(came(came(fresh_vault(), "bob"), "ann"),
                         (2, (("ann", 1), ("bob", 0)), (), (("hand", "bob", 0), ("hand", "ann", 1))))
        for value in VALUES:
            if value not in ("a", "memo", "dee"):
                self.barred(("come", value), "name", came, VAULT, value)
        self.barred(("come", "world"), "name", came, VAULT, "world")
        self.barred(("come", "ann"), "there", came, VAULT, "ann")
        self.barred(("come", "nineteens"), "name", came, VAULT, "nineteens")
        self.assertEqual(came(VAULT, "eighteen")[1][-1], ("eighteen", 4))

    def test_holders_stay_there_when_they_read_nothing(self):
        gone = went(VAULT, "memo", 0, "bob")
        self.barred(("come", "bob"), "there", came, gone, "bob")
        self.assertEqual(renewed(gone, "bob")[1], (("ann", 0), ("bob", 4), ("cy", 2)))
        self.assertEqual(looked(gone, "bob", 2)[3][-1], ("open", "bob", 2))

    def test_begun(self):
        self.assertEqual(FOUNDED, THREE[:2] + ((("memo", ((("ann", "bob"), None),), ()),), THREE[3]))
        two = begun(VAULT, "a", ("ann",), ("ann", "cy"))
        self.assertEqual(two, VAULT[:2] + ((("a", ((("ann",), None), (("ann", "cy"), None)), ()),) + VAULT[2], VAULT[3]))
        self.assertEqual([one[0] for one in begun(two, "world", ("cy",))[2]], ["a", "memo", "world"])
        for value in VALUES:
            if value not in ("a", "memo", "world", "dee"):
                self.barred(("begin", value, (("ann",),)), "name", begun, VAULT, value, ("ann",))
        self.barred(("begin", "memo", (("ann",),)), "there", begun, VAULT, "memo", ("ann",))
        self.barred(("begin", "memo", ()), "there", begun, VAULT, "memo")

    def test_begun_with_wrong_sides(self):
        for value in VALUES + (("zoe",), ("world",), ("bob", "ann"), ("ann", "ann"), ["ann", "bob"], ("ann", None),
                               ("ann", ["bob"]), (("ann",),), "ann", ("ann", True)):
            if value != ("ann",):
                self.barred(("begin", "a", (value,)), "sides", begun, VAULT, "a", value)
                self.barred(("begin", "a", (("ann",), value)), "sides", begun, VAULT, "a", ("ann",), value)
                self.barred(("begin", "a", (value, ("ann",))), "sides", begun, VAULT, "a", value, ("ann",))
        self.barred(("begin", "a", ()), "sides", begun, VAULT, "a")
        self.barred(("begin", "a", (("ann",),) * 3), "sides", begun, VAULT, "a", ("ann",), ("ann",), ("ann",))
        self.barred(("begin", "A", (None,)), "name", begun, VAULT, "A", None)

    def test_went(self):
        gone = went(VAULT, "memo", 0, "ann")
        self.assertEqual(gone, VAULT[:2] + ((("memo", ((("bob",), 3),), ((("ann", "bob"),),)),), VAULT[3]))
        self.assertEqual(text_readers(gone, MEMO), (("ann", "bob"),))
        self.barred(("go", "memo", 0, "bob"), "last", went, gone, "memo", 0, "bob")
        self.barred(("go", "memo", 0, "ann"), "reader", went, gone, "memo", 0, "ann")
        for value in VALUES:
            if value != "memo":
                self.barred(("go", value, 0, "ann"), "record", went, VAULT, value, 0, "ann")
            if value != 0 or value is False:
                self.barred(("go", "memo", value, "ann"), "side", went, VAULT, "memo", value, "ann")
            self.barred(("go", "memo", 0, value), "reader", went, VAULT, "memo", 0, value)
        self.barred(("go", "memo", 0, "cy"), "reader", went, VAULT, "memo", 0, "cy")

    def test_went_on_one_of_two_sides(self):
        self.assertEqual(went(TWO_SIDES, "memo", 1, "cy")[2][0][1], ((("ann", "bob"), 3), (("bob",), 4)))
        self.assertEqual(went(TWO_SIDES, "memo", 0, "bob")[2][0][1], ((("ann",), 3), (("bob", "cy"), 4)))
        self.barred(("go", "memo", 2, "bob"), "side", went, TWO_SIDES, "memo", 2, "bob")
        self.barred(("go", "memo", 1, "ann"), "reader", went, TWO_SIDES, "memo", 1, "ann")
        # Reading on the other side does not help the last one of a side.
        left = went(TWO_SIDES, "memo", 1, "cy")
        self.barred(("go", "memo", 1, "bob"), "last", went, left, "memo", 1, "bob")

    def test_leaked(self):
        self.assertEqual(leaked(VAULT, 3), VAULT[:3] + (VAULT[3] + (("leak", 3),),))
        self.assertEqual(leaked(leaked(VAULT, 3), 3)[3][-2:], (("leak", 3), ("leak", 3)))
        for value in VALUES + (4, 24):
            if type(value) is not int or value not in (0, 1):
                self.barred(("leak", value), "key", leaked, VAULT, value)
        self.barred(("leak", 0), "key", leaked, fresh_vault(), 0)

    def test_renewed(self):
        self.assertEqual(renewed(VAULT, "ann"), (5, (("ann", 4), ("bob", 1), ("cy", 2)), VAULT[2],
                                                 VAULT[3] + (("hand", "ann", 4),)))
        self.assertEqual(outside(renewed(VAULT, "ann"), ("bob", "cy"))[0], (0, 3, 4))
        for value in VALUES + ("world",):
            self.barred(("renew", value), "holder", renewed, VAULT, value)

    def test_looked(self):
        self.assertEqual(looked(VAULT, "ann", 0), VAULT[:3] + (VAULT[3] + (("open", "ann", 0),),))
        self.assertEqual(looked(looked(VAULT, "ann", 2), "ann", 2)[3][-1], ("open", "ann", 2))
        for value in VALUES + ("world",):
            self.barred(("look", value, 0), "holder", looked, VAULT, value, 0)
            if type(value) is not int or value not in (0, 1):
                self.barred(("look", "ann", value), "box", looked, VAULT, "ann", value)
        self.barred(("look", "ann", 3), "box", looked, VAULT, "ann", 3)
        self.barred(("look", "ann", 1), "keys", looked, VAULT, "ann", 1)
        self.barred(("look", "zoe", 9), "holder", looked, VAULT, "zoe", 9)

    def test_looking_with_a_key_that_is_only_remembered(self):
        behind = taken(went(VAULT, "memo", 0, "bob"), 1)
        self.assertEqual(looked(behind, "bob", 2)[3][-1], ("open", "bob", 2))
        self.barred(("look", "bob", 1), "box", looked, behind, "bob", 1)

    def test_taken(self):
        gone = went(VAULT, "memo", 0, "bob")
        self.assertEqual(taken(gone, 1), gone[:3] + (gone[3] + (("take", 1),),))
        for value in VALUES + (3, 7):
            if type(value) is not int or value not in (0, 1):
                self.barred(("take", value), "box", taken, VAULT, value)
        self.barred(("take", 1), "box", taken, taken(gone, 1), 1)
        for b in (0, 2):
            self.barred(("take", b), "open", taken, gone, b)

    def test_taking_a_lead_where_there_is_no_text(self):
        led = turned(FOUNDED, BOTH, (("new", (0, 1)),))
        self.barred(("take", 0), "lead", taken, led, 0)
        self.barred(("take", 1), "lead", taken, led, 1)
        # Nobody reads by a lead that was replaced.
        again = turned(led, BOTH, (("new", (3,)),))
        self.barred(("take", 0), "lead", taken, again, 0)
        own = turned(led, BOTH, (("new", (0, 1)),))
        self.assertEqual(taken(own, 0)[3][-1], ("take", 0))

    def test_taking_a_lead_that_is_not_good(self):
        # cy has the lead, too: it is not good, but a reader who has it keeps it.
        bad = THREE[:2] + ((("memo", ((("ann", "bob"), 3),), ()),), THREE[3] + (("put", (3, (0,))), ("put", (3, (2,)))))
        bad = (4,) + bad[1:]
        self.assertFalse(is_good(bad, "memo", 0))
        self.barred(("take", 0), "lead", taken, bad, 0)
        self.assertEqual(taken(bad, 1)[3][-1], ("take", 1))

    def test_open_is_asked_ahead_of_lead_and_behind_the_take(self):
        self.barred(("take", 0), "open", taken, VAULT, 0)
        self.barred(("take", 0), "open", taken, TWO_SIDES, 0)
        # The vault at hand is not open already, and stays so.
        shut = went(VAULT, "memo", 0, "bob")[:3] + (VAULT[3] + (("take", 2),),)
        self.barred(("take", 1), "open", taken, shut, 1)

    def test_taking_one_of_two_boxes_with_the_same_text(self):
        twice = VAULT[:3] + (VAULT[3] + (("put", (MEMO, (0,))), ("put", (MEMO, (1,)))),)
        self.assertEqual(taken(twice, 2)[3][-1], ("take", 2))
        self.barred(("take", 4), "open", taken, taken(twice, 2), 4)
        self.barred(("take", 0), "lead", taken, taken(twice, 2), 0)

    def test_written(self):
        more = written(VAULT, "memo")
        self.assertEqual(more, VAULT[:2] + ((("memo", VAULT[2][0][1], ((("ann", "bob"),), (("ann", "bob"),))),),
                                            VAULT[3] + (("put", (("memo", 1), (3,))),)))
        self.assertEqual(written(TWO_SIDES, "memo")[3][-1], ("put", (("memo", 1), (3, 4))))
        for value in VALUES + ("plan",):
            if value != "memo":
                self.barred(("write", value), "record", written, VAULT, value)
        self.barred(("write", "memo"), "lead", written, FOUNDED, "memo")
        self.barred(("write", "memo"), "lead", written, leaked(VAULT, 0), "memo")
        self.assertEqual(written(leaked(VAULT, 2), "memo")[3][-1], ("put", (("memo", 1), (3,))))

    def test_written_where_one_side_has_no_good_lead(self):
        for key, word in ((0, "lead"), (2, "lead"), (4, "lead")):
            self.barred(("write", "memo"), word, written, leaked(TWO_SIDES, key), "memo")
        half = TWO_SIDES[:2] + ((("memo", ((("ann", "bob"), 3), (("bob", "cy"), None)), ()),), TWO_SIDES[3][:-1])
        self.barred(("write", "memo"), "lead", written, half, "memo")

    def test_lead_that_both_sides_have_is_a_key_once(self):
        same = (4, VAULT[1], (("memo", ((("ann", "bob"), 3),) * 2, ()),), VAULT[3][:-1])
        self.assertEqual(written(same, "memo")[3][-1], ("put", (MEMO, (3,))))
        self.assertEqual(written(same, "memo")[2][0][2], ((("ann", "bob"), ("ann", "bob")),))

    def test_leads_ascend_in_the_box(self):
        turned_over = TWO_SIDES[:2] + ((("memo", TWO_SIDES[2][0][1][::-1], ()),), TWO_SIDES[3][:-1])
        self.assertEqual(written(turned_over, "memo")[3][-1], ("put", (MEMO, (3, 4))))

    def test_steps_lead_to_vaults(self):
        for vault in (THREE, FOUNDED, went(VAULT, "memo", 0, "bob"), leaked(VAULT, 0), renewed(VAULT, "ann"),
                      looked(VAULT, "ann", 2), written(VAULT, "memo"), begun(VAULT, "a", ("cy",), ("cy",))):
            self.assertEqual(lets_vault(vault), (len(vault[1]), len(vault[2])))

    def test_the_vault_that_was_given_stays_as_it_is(self):
        before = repr(VAULT)
        for name in ("came", "begun", "went", "leaked", "renewed", "looked", "taken", "written"):
            for rest in ((), ("memo",), ("bob",), ("memo", 0, "bob"), (0,), ("ann", 0), ("a", ("ann",))):
                try:
                    told(getattr(vaultsteps, name), VAULT, *rest)
                except TypeError:
                    pass
                self.assertEqual(repr(VAULT), before)

    def test_arguments_by_name(self):
        self.assertEqual(came(holder="ann", vault=fresh_vault()), came(fresh_vault(), "ann"))
        self.assertEqual(went(holder="bob", side=0, record="memo", vault=VAULT), went(VAULT, "memo", 0, "bob"))
        self.assertEqual([leaked(key=0, vault=VAULT), renewed(holder="cy", vault=VAULT), looked(b=0, holder="ann", vault=VAULT),
                          written(record="memo", vault=VAULT)],
                         [leaked(VAULT, 0), renewed(VAULT, "cy"), looked(VAULT, "ann", 0), written(VAULT, "memo")])
        self.barred(("take", 0), "open", lambda: taken(b=0, vault=VAULT))
