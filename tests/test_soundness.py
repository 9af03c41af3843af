"""Soundness of vaults, sound papers and their checker ([7], [51], [52])."""

import unittest

from sealshelf.errors import InvalidPaper
from sealshelf.soundchecker import lets_sound
from sealshelf.soundness import is_open, is_shut, is_sound, sound_paper
from sealshelf.vaultfacts import exposed
from sealshelf.vaultsteps import begun, fresh_vault, leaked, taken, went, written
from tests import naiveturns
from tests.making import WRONG, deep, told, variants
from tests.naiveturns import led, sound_error
from tests.naivevaults import MEMO, TWO_SIDES, VAULT, some_vault

HISTORY = VAULT[3]
PAPER = (((0, 2), (1, 2)), (((2,), ()),))


def with_history(vault, history):
    return vault[:3] + (history,)


class Soundness(unittest.TestCase):
    def raises(self, word, at, vault, paper):
        with self.assertRaises(InvalidPaper) as caught:
            lets_sound(vault, paper)
        self.assertEqual((caught.exception.word, caught.exception.at), (word, at), repr(paper))
        self.assertIs(type(caught.exception.at), type(at))

    def agrees(self, vault, value):
        """The checker does with this value what the plain one does."""
        wanted = sound_error(vault, value)
        got = told(lets_sound, vault, value)
        self.assertEqual(got, ("InvalidPaper", *wanted) if isinstance(wanted, tuple) else tuple(wanted), repr(value))
        return got

    def test_example(self):
        self.assertEqual([lets_sound(VAULT, sound_paper(VAULT)), lets_sound(VAULT, PAPER), is_sound(leaked(VAULT, 0))],
                         [(2, 1), (2, 1), True])
        self.raises("way", 1, VAULT, (((0, 2), (0, 2)), (((2,), ()),)))

    def test_nothing_written(self):
        for vault in (fresh_vault(), begun(VAULT[:2] + ((),) + (HISTORY[:5],), "memo", ("ann",))):
            self.assertEqual([is_open(vault), is_shut(vault), is_sound(vault), sound_paper(vault),
                              lets_sound(vault, ((), ()))], [True, True, True, ((), ()), (0, 0)])

    def test_open(self):
        for b, wanted in ((0, False), (1, False), (2, False)):
            vault = with_history(VAULT, HISTORY + (("take", b),))
            self.assertEqual([is_open(vault), is_shut(vault), is_sound(vault), sound_paper(vault)],
                             [wanted, True, False, None])
        # Only readers of the moment, and only the newest text.
        self.assertTrue(is_open(with_history(went(VAULT, "memo", 0, "bob"), HISTORY + (("take", 1),))))
        more = written(VAULT, "memo")
        self.assertTrue(is_open(with_history(more, more[3] + (("take", 2),))))
        self.assertFalse(is_open(with_history(more, more[3] + (("take", 3),))))

    def test_open_asks_readers_of_both_sides_together(self):
        self.assertTrue(is_open(TWO_SIDES))
        self.assertEqual(lets_sound(TWO_SIDES, sound_paper(TWO_SIDES)), (4, 2))
        # ann and bob, ann and cy, bob alone, bob and cy.
        self.assertEqual(lets_sound(TWO_SIDES, (((0, 2, 4), (0, 3, 4), (1, 2, 4), (1, 3, 4)),
                                                (((2, 4), ()), ((0, 3), ())))), (4, 2))
        self.raises("way", 1, TWO_SIDES, (((0, 2, 4), (1, 2, 4), (1, 2, 4), (1, 3, 4)), (((2, 4), ()), ((0, 3), ()))))
        for b in range(5):
            self.assertFalse(is_open(with_history(TWO_SIDES, TWO_SIDES[3] + (("take", b),))))

    def test_two_readers_who_are_one_and_the_same(self):
        # bob alone, who reads on both sides, lacks the lead of one.
        vault = with_history(TWO_SIDES, TWO_SIDES[3][:5] + TWO_SIDES[3][6:])
        self.assertFalse(is_open(vault))
        sides = ((("ann",), 3), (("bob", "cy"), 4))
        without_bob = vault[:2] + ((("memo", sides, vault[2][0][2]),), TWO_SIDES[3])
        self.assertTrue(is_open(without_bob))

    def test_shut(self):
        spilled = with_history(VAULT, HISTORY + (("put", (3, (2,))),))
        self.assertEqual([is_open(spilled), is_shut(spilled), is_sound(spilled), sound_paper(spilled)],
                         [True, False, False, None])
        # What was taken off was copied.
        self.assertFalse(is_shut(with_history(spilled, spilled[3] + (("take", 3),))))
        # Old texts, too; and the readers of each side.
        more = written(VAULT, "memo")
        self.assertTrue(is_shut(more))
        self.assertFalse(is_shut(with_history(more, more[3] + (("put", (MEMO, (2,))),))))
        self.assertFalse(is_shut(with_history(TWO_SIDES, TWO_SIDES[3] + (("put", (MEMO, (0,))),))))
        self.assertFalse(is_shut(with_history(TWO_SIDES, TWO_SIDES[3] + (("put", (MEMO, (2,))),))))
        self.assertTrue(is_shut(with_history(TWO_SIDES, TWO_SIDES[3] + (("put", (MEMO, (1,))),))))

    def test_exposed_texts_matter_no_more(self):
        lost = leaked(VAULT, 0)
        self.assertEqual([exposed(lost), is_shut(lost), sound_paper(lost)[1], lets_sound(lost, (PAPER[0], ()))],
                         [(MEMO,), True, (), (2, 0)])
        self.raises("many", 1, lost, PAPER)
        # Not exposed by the leak, but copied behind it.
        spilled = with_history(VAULT, HISTORY + (("leak", 2), ("put", (3, (2,)))))
        self.assertEqual([exposed(spilled), is_shut(spilled)], [(), False])

    def test_lets_sound_shape(self):
        for value in WRONG + (deep(40), list(PAPER), PAPER + ((),), PAPER[:1], (list(PAPER[0]), PAPER[1]),
                              (PAPER[0], list(PAPER[1])), (PAPER[0], None), (None, PAPER[1]), ((), "")):
            if value not in (((), ()),):
                self.raises("shape", -1, VAULT, value)

    def test_lets_sound_first_of_two_errors(self):
        self.raises("many", 0, VAULT, ((), ()))
        self.raises("many", 0, VAULT, (PAPER[0][:1], ()))
        self.raises("many", 1, VAULT, ((None, None), ()))
        self.raises("way", 0, VAULT, ((None, None), (None,)))
        self.raises("way", 1, VAULT, (PAPER[0][:1] + (None,), (None,)))
        self.raises("closed", 0, VAULT, (PAPER[0], (None,)))
        more = written(VAULT, "memo")
        self.raises("closed", 1, more, ((((0, 3)), (1, 3)), (((2,), ()), ((2,), (("memo", 1),)))))

    def test_ways(self):
        for way in ((0,), (2, 0), (0, 2, 3), (0, 1, 2), (1, 2), [0, 2], (False, 2), (0, True, 2), (0, (2,)), (0, -1), None, ()):
            self.raises("way", 0, VAULT, ((way, (1, 2)), PAPER[1]))
        for way in ((0, 0, 2), (0, 2, 2), (0, 2, 0)):
            self.assertEqual(lets_sound(VAULT, ((way, (1, 2)), PAPER[1])), (2, 1))

    def test_ways_by_boxes_that_lie_there(self):
        gone = taken(went(VAULT, "memo", 0, "bob"), 1)
        self.assertEqual(lets_sound(gone, (((0, 2),), PAPER[1])), (1, 1))
        both = with_history(gone, gone[3] + (("put", (3, (0,))),))
        self.assertEqual(lets_sound(both, (((3, 2),), PAPER[1])), (1, 1))
        off = with_history(both, both[3] + (("take", 0),))
        self.raises("way", 0, off, (((0, 2),), PAPER[1]))
        self.assertEqual(lets_sound(off, (((3, 2),), PAPER[1])), (1, 1))

    def test_closed_sets(self):
        for closed in (((2,), (MEMO,)), ((), ()), ((2, 3), ()), ((0, 2), ()), ((2, 2), ()), ((True, 2), ()), [(2,), ()],
                       ((2,), []), ((2,),), ((2,), (), ()), ((3, 2), ()), None, ((2,), (("memo", False),))):
            self.raises("closed", 0, VAULT, (PAPER[0], (closed,)))
        for closed in (((2, 9), ()), ((2,), (("memo", 1), ("plan", 0)))):
            self.assertEqual(lets_sound(VAULT, (PAPER[0], (closed,))), (2, 1))
        # The outsiders have former own keys and what leaked, and all boxes that were ever put.
        self.raises("closed", 0, leaked(VAULT, 2)[:3] + (HISTORY + (("hand", "cy", 1),),), PAPER)

    def test_papers_changed_at_one_place(self):
        words = set()
        for vault in (VAULT, TWO_SIDES, written(VAULT, "memo"), leaked(VAULT, 0)):
            for value in variants(sound_paper(vault)):
                got = self.agrees(vault, value)
                words.add(got[1] if got[0] == "InvalidPaper" else "right")
        self.assertEqual(words, {"shape", "many", "way", "closed", "right"})

    def test_vaults_that_are_often_not_sound(self):
        found = set()
        for seed in range(400):
            vault = some_vault(seed)
            wanted = (naiveturns.is_open(vault), naiveturns.is_shut(vault))
            self.assertEqual((is_open(vault), is_shut(vault)), wanted)
            self.assertIs(is_sound(vault), all(wanted))
            paper = sound_paper(vault)
            self.assertIs(paper is not None, all(wanted))
            if paper is not None:
                self.assertEqual(lets_sound(vault, paper), tuple(sound_error(vault, paper)))
            found.add(wanted)
        self.assertEqual(len(found), 4)

    def test_papers_of_another_vault(self):
        for seed in range(12):
            rows = [vault for _, vault in led(seed)]
            for vault in rows[::4]:
                for other in rows[::5]:
                    self.agrees(vault, sound_paper(other))

    def test_arguments_by_name(self):
        self.assertEqual([is_open(vault=VAULT), is_shut(vault=VAULT), is_sound(vault=VAULT), lets_sound(thing=PAPER, vault=VAULT),
                          lets_sound(VAULT, sound_paper(vault=VAULT))], [True, True, True, (2, 1), (2, 1)])
