"""The checker of vaults and their facts ([6], [7], [48], [50])."""

import unittest

from sealshelf.errors import InvalidPaper, Locked, UnknownHolder
from sealshelf.vaultchecker import lets_vault
from sealshelf.vaultfacts import exposed, is_good, is_kept, outside, text_readers
from tests import naivevaults
from tests.making import WRONG, deep, told, variants
from tests.naive import parts_of
from tests.naivevaults import MEMO, TWO_SIDES, VAULT, leaked, outside_pair, some_vault, texts_of, vault_error

AFTER, HOLDERS, RECORDS, HISTORY = VAULT
SIDES = RECORDS[0][1]
TEXTS = RECORDS[0][2]
TWO = TWO_SIDES


class VaultChecker(unittest.TestCase):
    def raises(self, word, at, vault):
        with self.assertRaises(InvalidPaper) as caught:
            lets_vault(vault)
        self.assertEqual((caught.exception.word, caught.exception.at), (word, at), repr(vault))
        self.assertIs(type(caught.exception.at), type(at))

    def agrees(self, vault):
        """The checker does with this value what the plain one does."""
        wanted = vault_error(vault)
        got = told(lets_vault, vault)
        self.assertEqual(got, ("InvalidPaper", *wanted) if isinstance(wanted, tuple) else tuple(wanted), repr(vault))
        return got

    def record(self, sides=SIDES, texts=TEXTS, name="memo", holders=HOLDERS, history=HISTORY, after=AFTER):
        return (after, holders, ((name, sides, texts),), history)

    def test_example(self):
        self.assertEqual([lets_vault(VAULT), VAULT[2], VAULT[3][3:]],
                         [(3, 1), (("memo", ((("ann", "bob"), 3),), ((("ann", "bob"),),)),),
                          (("put", (3, (0,))), ("put", (3, (1,))), ("put", (("memo", 0), (3,))))])
        self.assertEqual(lets_vault(TWO), (3, 1))

    def test_no_holders_or_records(self):
        self.assertEqual([lets_vault((0, (), (), ())), lets_vault((9, (), (), (("leak", 8),))),
                          lets_vault((4, HOLDERS, (), HISTORY[:5]))], [(0, 0), (0, 0), (3, 0)])

    def test_record_may_be_called_world(self):
        self.assertEqual(lets_vault(self.record(name="world", texts=(), history=HISTORY[:5])), (3, 1))

    def test_shape(self):
        for vault in (None, (), VAULT[:3], VAULT + ((),), list(VAULT), (True,) + VAULT[1:], (-1,) + VAULT[1:],
                      (None,) + VAULT[1:], (4, list(HOLDERS)) + VAULT[2:], (4, (("ann",),)) + VAULT[2:],
                      (4, (("ann", True),)) + VAULT[2:], (4, (("Ann", 0),)) + VAULT[2:], (4, (["ann", 0],)) + VAULT[2:],
                      (4, HOLDERS, list(RECORDS), HISTORY), (4, HOLDERS, (("memo", SIDES),), HISTORY),
                      (4, HOLDERS, RECORDS, list(HISTORY)), (4, HOLDERS, RECORDS, None), self.record(name="Memo"),
                      self.record(name=None), self.record(sides=()), self.record(sides=SIDES * 3),
                      self.record(sides=(((), 3),)), self.record(sides=((("ann",),),)), self.record(sides=((("ann",), True),)),
                      self.record(sides=((["ann"], 3),)), self.record(sides=((("ann",), -1),)), self.record(sides=list(SIDES)),
                      self.record(sides=((("ann",), "3"),)), self.record(sides=SIDES * 2), self.record(texts=list(TEXTS)),
                      self.record(texts=((),)), self.record(texts=(("ann", "bob"),)), self.record(texts=((["ann", "bob"],),)),
                      self.record(texts=(TEXTS[0] * 2,)), self.record(texts=(([1],),)), self.record(texts=None)):
            self.raises("shape", -1, vault)

    def test_history(self):
        self.raises("shape", -1, VAULT[:3] + ((None,),))
        self.raises("lies", 6, VAULT[:3] + (HISTORY + (("take", 7),),))
        self.raises("holder", 0, VAULT[:3] + ((("hand", "world", 0),),))
        self.raises("keys", 6, VAULT[:3] + (HISTORY + (("open", "cy", 0),),))

    def test_holders(self):
        self.raises("holder", 2, (4, HOLDERS[:2] + (("world", 2),), RECORDS, HISTORY))
        self.raises("holder", 1, (4, (HOLDERS[0], HOLDERS[0]) + HOLDERS[2:], RECORDS, HISTORY))
        self.raises("holder", 1, (4, (HOLDERS[1], HOLDERS[0]) + HOLDERS[2:], RECORDS, HISTORY))
        self.raises("own", 0, (4, (("ann", 1),) + HOLDERS[1:], RECORDS, HISTORY))
        self.raises("own", 2, (4, HOLDERS[:2] + (("cy", 3),), RECORDS, HISTORY))
        self.raises("own", 2, (2, HOLDERS, RECORDS, HISTORY))
        self.raises("own", 0, (4, HOLDERS, RECORDS, HISTORY + (("hand", "bob", 0),)))
        self.raises("own", 2, (4, HOLDERS, RECORDS, HISTORY[:2] + HISTORY[3:]))
        # A former own key may be handed to others, and a key that leaked is still the holder's.
        self.assertEqual(lets_vault((5, (("ann", 4),) + HOLDERS[1:], RECORDS,
                                     HISTORY + (("hand", "ann", 4), ("hand", "bob", 0), ("leak", 4)))), (3, 1))
        self.assertEqual(lets_vault((4, HOLDERS, RECORDS, HISTORY + (("hand", "ann", 0),))), (3, 1))

    def test_records(self):
        self.raises("record", 1, (4, HOLDERS, RECORDS * 2, HISTORY))
        self.raises("record", 1, (4, HOLDERS, RECORDS + (("a", SIDES, ()),), HISTORY))
        for readers in (("bob", "ann"), ("ann", "ann"), ("ann", "zoe"), ("world",)):
            self.raises("readers", (0, 0), self.record(sides=((readers, 3),)))
            self.raises("readers", (0, 1), self.record(sides=SIDES + ((readers, 9),), texts=()))
        for lead in (4, 10 ** 59):
            self.raises("lead", (0, 0), self.record(sides=((("ann", "bob"), lead),)))
            self.raises("lead", (0, 1), self.record(sides=SIDES + ((("ann",), lead),), texts=()))
        self.assertEqual(lets_vault(self.record(sides=((("ann", "bob"), None),))), (3, 1))

    def test_texts(self):
        for readers in (("bob", "ann"), ("ann", "ann", "bob"), ("ann", "bob", "zoe"), ("ann",), (), ("bob", "cy")):
            self.raises("text", (0, 0), self.record(texts=((readers,),)))
        self.assertEqual(lets_vault(self.record(texts=((("ann", "bob", "cy"),),))), (3, 1))
        # Only the newest text needs the present readers.
        more = HISTORY + (("put", (("memo", 1), (3,))),)
        for readers in ((), ("cy",), ("ann", "bob", "cy")):
            self.assertEqual(lets_vault(self.record(texts=((readers,),) + TEXTS, history=more)), (3, 1))
            self.raises("put", (0, 1), self.record(texts=((readers,),) + TEXTS))
        self.raises("text", (0, 0), self.record(texts=((("cy", "ann"),),) + TEXTS, history=more))
        self.raises("put", (0, 0), self.record(history=HISTORY[:5]))
        two = TWO[2][0]
        self.raises("text", (0, 0), TWO[:2] + (((two[0], two[1], ((("ann", "bob"), ("ann", "cy")),)),),) + TWO[3:])

    def test_text_that_was_put_and_taken(self):
        self.assertEqual(lets_vault(self.record(history=HISTORY + (("take", 2),))), (3, 1))

    def test_deeds(self):
        for deed in (("hand", "dee", 3), ("hand", "ann", 4), ("leak", 4), ("put", (4, (0,))), ("put", (3, (0, 4))),
                     ("put", (("memo", 1), (3,))), ("put", (("plan", 0), (3,)))):
            self.raises("deed", 6, (4, HOLDERS, RECORDS, HISTORY + (deed, ("leak", 9))))
        self.raises("deed", 8, (4, HOLDERS, RECORDS, HISTORY + (("open", "ann", 0), ("take", 1), ("leak", 9))))
        self.raises("deed", 5, (4, HOLDERS, (), HISTORY))

    def test_holder_without_a_place_among_the_holders(self):
        history = HISTORY + (("hand", "dee", 3), ("open", "dee", 2))
        self.raises("deed", 6, (4, HOLDERS, RECORDS, history))

    def test_first_of_two_errors(self):
        bad = (("zoe",), 9)
        self.raises("shape", -1, (4, (("world", 9),), None, (None,)))
        self.raises("lies", 0, (4, (("world", 9),), (("memo", (bad,), ()),), (("take", 0),)))
        self.raises("holder", 0, (4, (("world", 9), ("ann", 9)), (("memo", (bad,), ()),), HISTORY))
        self.raises("own", 0, (4, (("bob", 9), ("ann", 0)), (("memo", (bad,), ()),), HISTORY))
        self.raises("readers", (0, 0), self.record(sides=(bad, bad), texts=()))
        self.raises("lead", (0, 0), self.record(sides=((("ann",), 9), bad), texts=()))
        self.raises("readers", (0, 1), self.record(sides=(SIDES[0], bad), texts=((("b", "a"), ()),)))
        self.raises("text", (0, 0), self.record(texts=((("ann",),),), history=HISTORY[:5]))
        self.raises("put", (0, 0), self.record(texts=((("ann",),), (("zoe",),)), history=HISTORY[:5]))
        self.raises("put", (0, 0), (4, HOLDERS, RECORDS * 2, HISTORY[:5]))
        self.raises("put", (0, 0), self.record(history=HISTORY[:5] + (("leak", 9),)))

    def test_every_value(self):
        for value in WRONG + (deep(40), tuple(range(5000))):
            self.agrees(value)
            for k in range(4):
                self.agrees(VAULT[:k] + (value,) + VAULT[k + 1:])
            for k in range(3):
                self.agrees((4, HOLDERS, (RECORDS[0][:k] + (value,) + RECORDS[0][k + 1:],), HISTORY))

    def test_vaults(self):
        for seed in range(300):
            vault = some_vault(seed)
            self.assertEqual(lets_vault(vault), (len(vault[1]), len(vault[2])))

    def test_vaults_changed_at_one_place(self):
        words = set()
        for vault in [VAULT, TWO] + [some_vault(seed, most=4) for seed in range(30)]:
            for value in variants(vault):
                got = self.agrees(value)
                words.add(got[1] if got[0] == "InvalidPaper" else "right")
        self.assertEqual(words, {"shape", "holder", "lies", "keys", "own", "record", "readers", "lead", "text", "put", "deed",
                                 "right"})

    def test_arguments_by_name(self):
        self.assertEqual(lets_vault(thing=VAULT), (3, 1))


class VaultFacts(unittest.TestCase):
    def test_example(self):
        self.assertEqual([is_good(VAULT, "memo", 0), is_kept(VAULT, 3, ("ann",)), outside(VAULT, ("ann",))],
                         [True, False, ((1, 2, 3), (MEMO,))])
        self.assertEqual([exposed(VAULT), exposed(leaked(VAULT, 2)), exposed(leaked(VAULT, 0))], [(), (), (MEMO,)])

    def test_no_holders(self):
        empty = (0, (), (), ())
        self.assertEqual([outside(empty, ()), is_kept(empty, 0, ()), exposed(empty)], [((), ()), True, ()])
        self.assertEqual([outside((1, (), (), (("leak", 0),)), ()), is_kept((1, (), (), (("leak", 0),)), 0, ())],
                         [((0,), ()), False])

    def test_outsiders_are_together_with_the_world(self):
        vault = (4, HOLDERS, RECORDS, HISTORY + (("put", (3, (1, 2))),))
        self.assertEqual([outside(vault, ("ann", "cy"))[0], outside(leaked(vault, 2), ("ann", "cy"))[0],
                          outside(leaked(vault, 2), ("ann", "bob", "cy"))[0]], [(1, 3), (1, 2, 3), (2,)])
        apart = vault[:3] + (HISTORY[:3] + (("put", (3, (1, 2))), HISTORY[5]),)
        self.assertEqual([outside(apart, ("bob",)), outside(leaked(apart, 1), ("ann", "bob")), outside(apart, ("ann",))],
                         [((0, 2), ()), ((1, 2, 3), (MEMO,)), ((1, 2, 3), (MEMO,))])

    def test_what_was_copied_counts_also_if_it_was_taken(self):
        vault = VAULT[:3] + (HISTORY + (("take", 1), ("leak", 1)),)
        self.assertEqual([is_kept(vault, 3, ("ann", "bob")), is_good(vault, "memo", 0), exposed(vault)],
                         [False, False, (MEMO,)])

    def test_good_leads(self):
        none = (4, HOLDERS, (("memo", ((("ann", "bob"), None),), ((("ann", "bob"),),)),), HISTORY)
        lost = VAULT[:3] + (HISTORY + (("take", 1),),)
        back = VAULT[:3] + (HISTORY + (("take", 1), ("put", (3, (1,)))),)
        three = (4, HOLDERS, (("memo", ((("ann", "bob", "cy"), 3),), ()),), HISTORY[:5])
        self.assertEqual([is_good(vault, "memo", 0) for vault in (none, lost, back, three, leaked(VAULT, 2), leaked(VAULT, 0),
                                                                  leaked(VAULT, 3))],
                         [False, False, True, False, True, False, False])
        self.assertEqual([is_good(TWO, "memo", 0), is_good(TWO, "memo", 1), is_good(leaked(TWO, 0), "memo", 0),
                          is_good(leaked(TWO, 0), "memo", 1)], [True, True, False, True])
        self.assertIs(is_good(VAULT[:2] + ((("memo", ((("ann",), 3),), ()),),) + (HISTORY[:5],), "memo", 0), False)

    def test_readers_who_have_it_only_together(self):
        history = HISTORY[:3] + (("put", (3, (0, 1))),)
        vault = (4, HOLDERS, (("memo", ((("ann", "bob"), 3),), ()),), history)
        self.assertEqual([is_kept(vault, 3, ("ann", "bob")), is_good(vault, "memo", 0)], [True, False])

    def test_text_readers(self):
        self.assertEqual([text_readers(VAULT, MEMO), text_readers(TWO, MEMO)],
                         [(("ann", "bob"),), (("ann", "bob"), ("bob", "cy"))])
        older = (4, HOLDERS, (("memo", SIDES, (((),),) + TEXTS),), HISTORY + (("put", (("memo", 1), (3,))),))
        self.assertEqual([text_readers(older, ("memo", n)) for n in (0, 1)], [((),), (("ann", "bob"),)])

    def test_no_text_of_the_vault(self):
        for value in [value for value in WRONG if value != MEMO or type(value) is not tuple] + [
                ("memo", 1), ("memo", False), ("plan", 0), ["memo", 0], ("memo", 0, 0), deep(40), 0, "memo", ("memo", -1),
                ("memo", 0.0)]:
            with self.assertRaises(Locked) as caught:
                text_readers(VAULT, value)
            self.assertEqual(caught.exception.thing, value)
            self.assertIs(type(caught.exception.thing), type(value))

    def test_exposed_by_a_leak_whichever_it_is(self):
        # A leak ahead of the put exposes it only by a later leak.
        early = VAULT[:3] + (HISTORY[:5] + (("leak", 3),) + HISTORY[5:],)
        self.assertEqual([exposed(early), outside(early, ("ann", "bob"))[1], exposed(leaked(early, 2))], [(), (MEMO,), (MEMO,)])
        self.assertEqual(exposed(leaked(leaked(VAULT, 0), 2)), (MEMO,))

    def test_exposed_on_one_of_its_sides(self):
        self.assertEqual([exposed(leaked(TWO, key)) for key in (0, 1, 2, 3, 4)], [(MEMO,), (MEMO,), (MEMO,), (MEMO,), (MEMO,)])
        self.assertEqual(exposed(leaked(TWO, 5)), ())
        wide = TWO[:2] + ((("memo", TWO[2][0][1], ((("ann", "bob", "cy"),) * 2,)),),) + TWO[3:]
        self.assertEqual([exposed(leaked(wide, key)) for key in (0, 1, 2, 3)], [(), (MEMO,), (), ()])

    def test_word_by_word(self):
        for seed in range(250):
            vault = some_vault(seed)
            names = tuple(name for name, _ in vault[1])
            self.assertEqual(exposed(vault), naivevaults.exposed(vault))
            for holders in parts_of(names):
                self.assertEqual(outside(vault, holders), outside_pair(vault, holders))
                for key in range(vault[0]):
                    self.assertIs(is_kept(vault, key, holders), key not in naivevaults.outside(vault, holders))
            for record, sides, _ in vault[2]:
                for side in range(len(sides)):
                    self.assertIs(is_good(vault, record, side), naivevaults.is_good(vault, record, side))
            for text, readers in texts_of(vault).items():
                self.assertEqual(text_readers(vault, text), readers)

    def test_unknown_holder(self):
        for value in WRONG + (deep(40), ["ann"], "dee", "world"):
            for group in ((value,), ("ann", value, "zoe"), (value, value)):
                self.unknown(value, group)
        self.unknown("ann", ("ann", "ann", "zoe"))

    def unknown(self, holder, group):
        for call in (lambda: outside(VAULT, group), lambda: is_kept(VAULT, 3, group)):
            with self.assertRaises(UnknownHolder) as caught:
                call()
            self.assertEqual(caught.exception.holder, holder)
            self.assertIs(type(caught.exception.holder), type(holder))

    def test_arguments_by_name(self):
        self.assertEqual([outside(holders=("ann", "bob", "cy"), vault=VAULT), is_kept(holders=(), key=5, vault=VAULT),
                          is_good(side=0, record="memo", vault=VAULT), text_readers(text=MEMO, vault=VAULT), exposed(vault=VAULT)],
                         [((), ()), True, True, (("ann", "bob"),), ()])
