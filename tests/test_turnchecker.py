"""The checker of turn papers ([56], [57])."""

import random
import unittest

from sealshelf.errors import InvalidPaper
from sealshelf.plans import turn_paper
from sealshelf.turnchecker import lets_turn
from sealshelf.turnstops import turned
from sealshelf.vaultsteps import begun, came, fresh_vault, renewed
from tests.making import WRONG, deep, told, variants
from tests.naivevaults import VAULT, some_vault
from tests.naiveturns import allowed_ways, are_goals, led, some_goals, some_plan, turn_error
from tests.test_vaultsteps import BOTH, FOUNDED, THREE

ALL = (("memo", 0, ("ann", "bob", "cy")),)
CY = ("cy", ((2, ()),))
PAPER = ((("on", (2,)),), ((("new",), (CY,)), (("on",), (CY,))))
LED = turned(FOUNDED, BOTH, (("new", (0, 1)),))
RECORDS = begun(begun(begun(THREE, "a", ("ann",)), "b", ("ann", "bob")), "c", ("ann", "bob"))
GOALS = (("a", 0, ("ann",)), ("b", 0, ("ann", "bob")), ("c", 0, ("ann", "bob")))
ANN = ("ann", ((0, ()),))
NEW = ("new", "new", "new")
PLAN = (("new", (0,)), ("new", (0, 1)), ("new", ()))


def pair_tree(lead):
    """A tree for ann and bob: ann by her own key or by the lead, and bob by his."""
    bob = ("bob", ((1, ()),))
    return ("ann", ((0, bob), (lead, bob)))


class TurnChecker(unittest.TestCase):
    def raises(self, word, at, vault, goals, paper):
        with self.assertRaises(InvalidPaper) as caught:
            lets_turn(vault, goals, paper)
        self.assertEqual((caught.exception.word, caught.exception.at), (word, at), repr(paper))
        self.assertIs(type(caught.exception.at), type(at))

    def agrees(self, vault, goals, value):
        """The checker does with this value what the plain one does."""
        wanted = turn_error(vault, goals, value)
        got = told(lets_turn, vault, goals, value)
        self.assertEqual(got, ("InvalidPaper", *wanted) if isinstance(wanted, tuple) else wanted, repr(value))
        return got

    def test_example(self):
        self.assertEqual(lets_turn(VAULT, ALL, PAPER), 1)
        self.raises("few", 0, VAULT, ALL, ((("new", (2, 3)),), PAPER[1]))

    def test_no_goals(self):
        self.assertEqual(lets_turn(VAULT, (), ((), (((), ()),))), 0)
        self.raises("choices", -1, VAULT, (), ((), ()))
        self.raises("trees", 0, VAULT, (), ((), (((), ((),)),)))

    def test_shape(self):
        for value in WRONG + (deep(40), list(PAPER), PAPER[:1], PAPER + ((),), (PAPER[0], list(PAPER[1])), (PAPER[0], (None,)),
                              (PAPER[0], ((("new",),),)), (PAPER[0], ([("new",), (CY,)],)), (PAPER[0], ((["new"], (CY,)),)),
                              (PAPER[0], ((("new",), [CY]),)), (PAPER[0], ((("new",), (CY,), ()),)), (None, None)):
            # Some of the wrong values have the shape of a plan without choices.
            wanted = ("plan", -1) if value in (((), ()), (None, ()), (0, ())) and type(value) is tuple else ("shape", -1)
            self.raises(*wanted, VAULT, ALL, value)

    def test_plan(self):
        for plan in WRONG + (deep(40), [("on", (2,))], (("on", [2]),), (("on", ()),), (("off", (2,)),), (("on", (2, 3)),)):
            self.raises("plan", -1, VAULT, ALL, (plan, PAPER[1]))
        self.raises("plan", -1, VAULT, ALL, (None, ()))

    def test_choices(self):
        first, second = PAPER[1]
        for choices in ((), (first,), (second,), (second, first), (first, first), (first, second, second),
                        (((), (CY,)), second), ((("old",), (CY,)), second), ((("new", "new"), (CY,)), second),
                        (((["new"],), (CY,)), second), (((None,), (CY,)), second)):
            self.raises("choices", -1, VAULT, ALL, (PAPER[0], choices))
        # A way that is not allowed does not stand there.
        self.raises("choices", -1, RECORDS, GOALS, (PLAN, ((NEW, ()), (("on", "new", "new"), ()))))

    def test_trees(self):
        second = PAPER[1][1]
        for trees in ((), (CY, CY), ((), ())):
            self.raises("trees", 0, VAULT, ALL, (PAPER[0], ((("new",), trees), second)))
            self.raises("trees", 1, VAULT, ALL, (PAPER[0], (PAPER[1][0], (("on",), trees))))
        # c's boxes are those of b.
        paper = (PLAN, ((NEW, (ANN, pair_tree(3), ())),))
        self.assertEqual(lets_turn(RECORDS, GOALS, paper), 3)
        for tree in (pair_tree(3), ANN, None, [], (None, ())):
            self.raises("trees", 0, RECORDS, GOALS, (PLAN, ((NEW, (ANN, pair_tree(3), tree)),)))
            self.raises("trees", 0, RECORDS, GOALS, (PLAN, ((NEW, (None, None, tree)),)))

    def test_nodes(self):
        def node(c, k, n, *trees):
            self.raises("node", (c, k, n), RECORDS, GOALS, (PLAN, ((NEW, trees + ((),)),)))

        for tree in WRONG + (deep(40), ["ann", ((0, ()),)], ("ann",), ("ann", ()), ("ann", [(0, ())]), ("ann", ((0, ()),), ()),
                             ("bob", ((1, ()),)), ("ann", ((0, ()), (3, ()))), ("ann", ((False, ()),)), ("ann", ((0,),)),
                             ("ann", ([0, ()],)), (["ann"], ((0, ()),)), (None, ((0, ()),)), ("ann", ((1, ()),))):
            if tree != () or type(tree) is not tuple:
                node(0, 0, 0, tree, pair_tree(3))
        # Numbered ahead of the branches, and one branch with all in it after the other.
        bob = ("bob", ((1, ()),))
        node(0, 0, 1, ("ann", ((0, None),)), pair_tree(3))
        node(0, 0, 1, ("ann", ((0, ANN),)), pair_tree(3))
        for n, tree in ((1, ("ann", ((0, None), (3, bob)))), (2, ("ann", ((0, ("bob", ((1, None),))), (3, bob)))),
                        (3, ("ann", ((0, bob), (3, None)))), (2, ("ann", ((0, ()), (3, None)))),
                        (4, ("ann", ((0, bob), (3, ("bob", ((1, 0),)))))), (1, ("bob", ((1, ANN),))),
                        (2, ("bob", ((1, ("ann", ((0, None), (3, ())))),)))):
            node(0, 1, n, ANN, tree)
        # Branches in another order, one that is missing, one twice; the first goal with an error.
        node(0, 1, 0, ANN, ("ann", ((3, bob), (0, bob))))
        node(0, 1, 0, ANN, ("ann", ((0, bob),)))
        node(0, 1, 0, ANN, ("ann", ((0, bob), (0, bob), (3, bob))))
        node(0, 0, 0, None, None)

    def test_whom_a_key_on_the_way_reaches_is_not_named_again(self):
        # The old lead reaches ann and bob.
        paper = ((("new", (2, 3)),), ((("new",), (("ann", ((0, ()), (3, ("bob", ((1, ()), (3, ())))))),)), (("on",), (CY,))))
        self.raises("node", (0, 0, 2), VAULT, ALL, paper)
        tree = ("ann", ((0, ("bob", ((1, CY), (3, CY)))), (3, CY)))
        self.assertEqual(lets_turn(VAULT, ALL, (PAPER[0], ((("new",), (tree,)), (("on",), (CY,))))), 1)
        # Two keys and the text: three boxes by "new", but one by "on".
        self.raises("few", 1, VAULT, ALL, ((("new", (2, 3)),), ((("new",), (tree,)), (("on",), (CY,)))))

    def test_few(self):
        self.raises("few", 0, RECORDS, GOALS, (PLAN, ((NEW, ((), pair_tree(3), ())),)))
        self.raises("few", 0, RECORDS, GOALS, (PLAN, ((NEW, (ANN, ("ann", ((0, ()), (3, ("bob", ((1, ()),))))), ())),)))
        self.raises("few", 1, VAULT, ALL, (PAPER[0], ((("new",), ((),)), (("on",), ((),)))))
        # The box with the text is enough by "new".
        self.assertEqual(lets_turn(VAULT, ALL, (PAPER[0], ((("new",), ((),)), (("on",), (CY,))))), 1)

    def test_endless_trees(self):
        # bob's own key leaked. memo's lead 2 reaches him for plan, but not if both leads stay.
        sides = (("memo", ((("bob", "cy"), 2),), ()), ("plan", ((("bob", "cy"), 3),), ()))
        hands = tuple(("hand", name, key) for name, key in (("bob", 0), ("cy", 1), ("bob", 2), ("cy", 2), ("cy", 3)))
        vault = (4, (("bob", 0), ("cy", 1)), sides, hands + (("leak", 0),))
        goals = (("memo", 0, ("bob", "cy")), ("plan", 0, ("bob", "cy")))
        plan, choices = turn_paper(vault, goals)
        self.assertEqual([lets_turn(vault, goals, (plan, choices)), choices[3]], [1, (("on", "on"), ((), ("bob", ())))])
        for tree, word, at in (((), "few", 3), (("cy", ()), "node", (3, 1, 0)), (("bob", ((2, ()),)), "node", (3, 1, 0)),
                               (("bob", ((1, ()),)), "node", (3, 1, 0))):
            self.raises(word, at, vault, goals, (plan, choices[:3] + ((("on", "on"), ((), tree)),)))
        # More than any number: also than that of a plan with more boxes than need be.
        more = (("new", (2,)), ("on", (2,)))
        self.raises("few", 0, vault, goals, (more, choices))
        both = ("bob", ((2, ()),))
        either = ("bob", ((2, ()), (3, ())))
        wide = ((("new", "new"), (both, ())), (("new", "on"), (either, both)), (("on", "new"), ((), both)))
        wide = wide + choices[3:]
        self.raises("few", 0, vault, goals, (more, wide))
        self.assertEqual(lets_turn(vault, goals, (plan, wide)), 1)

    def test_endless_branches(self):
        # As above, and dee comes to plan, whom two own keys reach.
        sides = (("memo", ((("bob", "cy"), 2),), ()), ("plan", ((("bob", "cy"), 3),), ()))
        hands = tuple(("hand", name, key) for name, key in (("bob", 0), ("cy", 1), ("bob", 2), ("cy", 2), ("cy", 3), ("dee", 4),
                                                            ("dee", 5)))
        vault = (6, (("bob", 0), ("cy", 1), ("dee", 5)), sides, hands + (("leak", 0),))
        goals = (("memo", 0, ("bob", "cy", "dee")), ("plan", 0, ("bob", "cy", "dee")))
        plan, choices = turn_paper(vault, goals)
        self.assertEqual(lets_turn(vault, goals, (plan, choices)), turn_error(vault, goals, (plan, choices)))
        bob = ("bob", ())
        for memo, tree, word in ((("dee", ((4, ()), (5, ()))), ("dee", ((4, bob), (5, bob))), None),
                                 ((), ("dee", ((4, bob), (5, bob))), None), ((), ("dee", ((4, bob), (5, ()))), "few"),
                                 ((), ("dee", ((4, ()), (5, ()))), "few"), (("dee", ((4, ()), (5, ()))), ("dee", ((4, ()), (5, bob))), None)):
            paper = (plan, choices[:3] + ((("on", "on"), (memo, tree)),))
            got = told(lets_turn, vault, goals, paper)
            self.assertEqual(got, 2 if word is None else ("InvalidPaper", word, 3), repr(tree))
            self.agrees(vault, goals, paper)

    def test_papers_of_drawn_vaults(self):
        words = set()
        many = 0
        for seed in range(60):
            rng = random.Random(seed)
            for vault in [some_vault(seed)] + [vault for _, vault in led(seed)][::3]:
                goals = some_goals(rng, vault) if vault[1] else ()
                if are_goals(vault, goals) and turn_paper(vault, goals) is not None:
                    paper = turn_paper(vault, goals)
                    self.assertEqual(lets_turn(vault, goals, paper), turn_error(vault, goals, paper))
                    # With another plan it is a paper only if this has the fewest boxes, too.
                    got = self.agrees(vault, goals, (some_plan(rng, vault, goals), paper[1]))
                    words.add(got[1] if isinstance(got, tuple) else "right")
                    many += len(allowed_ways(vault, goals)) > 1
        self.assertEqual(words, {"few", "right"})
        self.assertGreater(many, 50)

    def test_papers_changed_at_one_place(self):
        words = set()
        cases = [(VAULT, ALL, PAPER), (RECORDS, GOALS, turn_paper(RECORDS, GOALS)), (VAULT, BOTH, turn_paper(VAULT, BOTH))]
        vault = begun(LED, "a", ("ann",))
        goals = (("a", 0, ("ann", "cy")), ("memo", 0, ("ann", "bob")))
        cases.append((vault, goals, turn_paper(vault, goals)))
        for vault, goals, paper in cases:
            for value in variants(paper):
                got = self.agrees(vault, goals, value)
                words.add(got[1] if isinstance(got, tuple) else "right")
        self.assertEqual(words, {"shape", "plan", "choices", "trees", "node", "few", "right"})

    def test_long_values(self):
        row = tuple(range(5000))
        self.raises("plan", -1, VAULT, ALL, (row, PAPER[1]))
        self.raises("node", (0, 0, 0), VAULT, ALL, (PAPER[0], ((("new",), (row,)), PAPER[1][1])))
        self.raises("node", (0, 0, 0), VAULT, ALL, (PAPER[0], ((("new",), (("cy", ((2, ()),) * 2000),)), PAPER[1][1])))
        self.raises("trees", 0, VAULT, ALL, (PAPER[0], ((("new",), row), PAPER[1][1])))

    def test_at_the_limits(self):
        vault = fresh_vault()
        names = ("ann", "bob", "cy", "dee", "eve")
        for name in names:
            vault = came(vault, name)
        for k in range(16):
            vault = renewed(vault, names[k % 5])
        for record in ("a", "b", "c"):
            vault = begun(vault, record, names[:3], names)
        goals = (("a", 0, names), ("b", 0, names[:4]), ("c", 1, names))
        paper = turn_paper(vault, goals)
        self.assertEqual(lets_turn(vault, goals, paper), 6)

    def test_arguments_by_name(self):
        self.assertEqual(lets_turn(thing=PAPER, goals=ALL, vault=VAULT), 1)
