"""The names, arguments and places that the interface lists."""

import copy
import importlib
import inspect
import unittest

from tests.making import told
from tests.naivevaults import VAULT

FUNCTIONS = {
    "kinds": {name: "thing" for name in ("is_name", "is_key", "is_text", "is_thing", "is_keys", "is_box", "is_boxes",
                                         "is_shelf")},
    "openings": {"opened": "keys, boxes", "opens": "keys, boxes, thing", "openable": "keys, boxes"},
    "ways": {name: "keys, boxes, thing" for name in ("way_to", "shortest_way", "shortest_paper", "closed_without")},
    "waychecker": {name: "keys, boxes, thing, paper" for name in ("lets_way", "lets_closed", "lets_shortest")},
    "texts": {"thing_text": "thing", "keys_text": "keys", "box_text": "box", "boxes_text": "boxes",
              "shelf_text": "shelf"},
    "readings": {"read_thing": "text, *, row=0, field=0", "read_keys": "text, *, row=0, field=0",
                 "read_box": "text, *, row=0, field=0", "read_boxes": "text, *, row=0, field=0", "read_shelf": "text"},
    "shelfchecker": {"lets_shelf": "thing"},
    "groups": {"opened_by": "shelf, group", "opens_together": "shelf, group, thing", "alone": "shelf, thing",
               "least_groups": "shelf, thing", "least_locks": "shelf, thing"},
    "leaks": {"least_leaks": "shelf, thing, *, known=()"},
    "grouppapers": {"groups_paper": "shelf, thing"},
    "groupchecker": {"lets_groups": "shelf, thing, paper"},
    "keeping": {"meets": "shelf, demands, kept", "needless": "shelf, demands", "least_keeps": "shelf, demands",
                "fewest_kept": "shelf, demands"},
    "keeppapers": {"keep_paper": "shelf, demands"},
    "keepchecker": {"lets_keep": "shelf, demands, paper"},
    "historychecker": {"lets_history": "thing", "is_history": "thing"},
    "lyings": {"boxes_put": "history", "lying": "history, moment", "hand_at": "history, group, moment",
               "holders_of": "history"},
    "havings": {"had": "history, group, moment, word", "first_moment": "history, group, thing, word",
                "gained": "history, group, word", "apart": "history, group, moment, since"},
    "timedways": {"timed_way": "history, group, moment, thing, word", "table_without": "history, group, moment, thing"},
    "timedchecker": {"lets_timed": "history, group, moment, thing, word, paper",
                     "lets_table": "history, group, moment, thing, paper"},
    "takes": {"last_take": "history, group, thing, b", "keeping_off": "history, group, thing",
              "least_offs": "history, group, thing, *, most=2"},
    "logs": {"unlogged": "history, holder", "suspects": "history, thing"},
    "vaultchecker": {"lets_vault": "thing"},
    "vaultfacts": {"outside": "vault, holders", "is_kept": "vault, key, holders", "is_good": "vault, record, side",
                   "text_readers": "vault, text", "exposed": "vault"},
    "vaultsteps": {"fresh_vault": "", "came": "vault, holder", "begun": "vault, record, *sides",
                   "went": "vault, record, side, holder", "leaked": "vault, key", "renewed": "vault, holder",
                   "looked": "vault, holder, b", "taken": "vault, b", "written": "vault, record"},
    "soundness": {name: "vault" for name in ("is_open", "is_shut", "is_sound", "sound_paper")},
    "soundchecker": {"lets_sound": "vault, thing"},
    "goals": {"are_goals": "vault, thing", "may_stay": "vault, goal", "allowed_ways": "vault, goals"},
    "planchecker": {"lets_plan": "vault, goals, thing"},
    "plans": {"fewest_turn": "vault, goals", "turn_paper": "vault, goals"},
    "turnstops": {"turned": "vault, goals, plan", "stops_of": "vault, goals, plan"},
    "turnchecker": {"lets_turn": "vault, goals, thing"},
    "livesteps": {"is_step": "thing"},
    "replaying": {"is_log": "thing", "replayed": "log"},
    "steprows": {"step_row": "step", "log_rows": "log"},
    "rowreadings": {"read_step": "text, *, row=0", "read_log": "rows"},
}
BOTH = (("memo", 0, ("ann", "bob")),)
CLASSES = {
    "errors": {"ShelfError": {}, "PaperError": {}, "DeedError": {}, "TextError": {},
               "InvalidPaper": {"__init__": "self, word, at"}, "UnknownHolder": {"__init__": "self, holder"},
               "InvalidStep": {"__init__": "self, step, word"}, "Locked": {"__init__": "self, thing"},
               "NothingToUndo": {"__init__": "self, count"}, "InvalidMoment": {"__init__": "self, moment"},
               "InvalidText": {"__init__": "self, row, field"}, "InvalidCommand": {"__init__": "self, text"}},
    "rings": {"Ring": {"__init__": "self, *keys", "walk": "self", "within": "self, other", "opening": "self, boxes",
                       "reading": "self, boxes", "__len__": "self", "__str__": "self", "__contains__": "self, thing"}},
    "chests": {name: {"__init__": head, "content": "self", "opening": "self, keys"} for name, head in (
        ("Chest", "self, boxes"), ("Without", "self, boxes, *, key"), ("Shifted", "self, boxes, *, by"),
        ("Doubled", "self, boxes, *, key, extra"), ("ShiftedDouble", "self, boxes, *, by, key, extra"),
        ("DoubledShift", "self, boxes, *, by, key, extra"))},
    "chronicles": {"Chronicle": {"__init__": "self, *deeds", "walk": "self", "with_deed": "self, deed",
                                 "knows": "self, thing", "until": "self, moment", "who": "self, thing, word",
                                 "__len__": "self", "__getitem__": "self, moment", "__eq__": "self, other"}},
    "livevaults": {"Vault": {
        **{name: "self" for name in ("__init__", "due_goals", "holders", "records", "__len__", "shelf", "lying", "needless",
                                     "room", "boxes", "exposed", "__str__", "undo", "log", "counts", "table")},
        **{name: "self, step" for name in ("__call__", "go", "barred")},
        **{name: "self, record" for name in ("__getitem__", "__contains__", "leads", "newest", "write")},
        **{name: "self, holder" for name in ("come", "renew", "own_key")}, "begin": "self, record, *sides",
        "leave": "self, record, side, holder", "leak": "self, key", "look": "self, holder, b", "take": "self, b",
        "turn": "self, goals, plan", "stop": "self, goals, plan, many", "turn_for": "self, goals",
        "is_good": "self, record, side", "had": "self, group, word", "who_had": "self, thing, word", "__eq__": "self, other",
        "__ne__": "self, other", "do_all": "self, *steps, keep=False", "tried": "self, *steps"}},
    "desk": {"Desk": {"__init__": "self", "say": "self, text", "counts": "self"}},
}


class Interface(unittest.TestCase):
    def test_functions(self):
        for module, functions in FUNCTIONS.items():
            place = importlib.import_module("sealshelf." + module)
            for name, head in functions.items():
                function = getattr(place, name)
                self.assertTrue(inspect.isfunction(function), name)
                self.assertEqual(function.__module__, place.__name__)
                self.assertEqual(str(inspect.signature(function)), f"({head})", name)

    def test_classes(self):
        for module, classes in CLASSES.items():
            place = importlib.import_module("sealshelf." + module)
            for name, methods in classes.items():
                kind = getattr(place, name)
                self.assertTrue(inspect.isclass(kind), name)
                self.assertEqual(kind.__module__, place.__name__)
                for method, head in methods.items():
                    self.assertIn(method, vars(kind), name)
                    self.assertEqual(str(inspect.signature(vars(kind)[method])), f"({head})", name + "." + method)

    def test_any_value_is_left_as_it_is(self):
        hands, boxes = (("ann", (0,)),), ((1, (0,)),)
        calls = [("kinds", name, ()) for name in FUNCTIONS["kinds"]] + [("shelfchecker", "lets_shelf", ())]
        calls += [("waychecker", name, ((0,), boxes, 1)) for name in FUNCTIONS["waychecker"]]
        calls += [("groupchecker", "lets_groups", ((hands, boxes), 1)),
                  ("keepchecker", "lets_keep", ((hands, boxes), ((("ann",), 1),))),
                  ("groups", "opened_by", ((hands, boxes),)), ("historychecker", "lets_history", ()),
                  ("historychecker", "is_history", ()), ("lyings", "lying", ((),)), ("lyings", "hand_at", ((), ())),
                  ("timedchecker", "lets_timed", ((), (), 0, 1, "now")), ("timedchecker", "lets_table", ((), (), 0, 1)),
                  ("takes", "last_take", ((), (), 0)), ("logs", "unlogged", ((),)), ("chronicles", "Chronicle", ()),
                  ("vaultchecker", "lets_vault", ()), ("vaultfacts", "text_readers", (VAULT,)),
                  ("vaultsteps", "came", (VAULT,)), ("vaultsteps", "begun", (VAULT, "a")),
                  ("vaultsteps", "went", (VAULT, "memo", 0)), ("vaultsteps", "leaked", (VAULT,)),
                  ("vaultsteps", "looked", (VAULT, "ann")), ("vaultsteps", "taken", (VAULT,)),
                  ("vaultsteps", "written", (VAULT,)), ("soundchecker", "lets_sound", (VAULT,)),
                  ("goals", "are_goals", (VAULT,)), ("planchecker", "lets_plan", (VAULT, BOTH)),
                  ("turnstops", "turned", (VAULT, BOTH)), ("turnchecker", "lets_turn", (VAULT, BOTH)),
                  ("livesteps", "is_step", ()), ("replaying", "is_log", ()), ("replaying", "replayed", ())]
        values = ([[0], [("memo", 0)]], ([0], [1]), (((0,), [()]), []), ([("ann", [1])], [(1, [2])]), (["put", (1, [0])],),
                  ("ann", [1, [2]]), (([0], ((0,),), None),), (0, [("ann", 0)], [], []),
                  (0, (), (["memo", ((["ann"], None),), ()],), ()), (["memo", 0, ["ann", "bob"]],), (["on", [3]],),
                  (([0, 2], [1, 2]), ([(2,), ()],)))
        for module, name, arguments in calls:
            for value in values:
                before = copy.deepcopy(value)
                told(getattr(importlib.import_module("sealshelf." + module), name), *arguments, value)
                self.assertEqual(value, before)

    def test_present_is_a_property_and_read_a_class_method_of_vault(self):
        from sealshelf.livevaults import Vault
        self.assertIsInstance(vars(Vault)["present"], property)
        self.assertIsInstance(vars(Vault)["read"], classmethod)
        self.assertEqual(str(inspect.signature(Vault.read)), "(text)")

    def test_a_vault_leaves_any_value_as_it_is(self):
        from sealshelf.livevaults import Vault
        vault = Vault()
        vault.come("ann")
        for value in ([0], ["come", "ann"], ("begin", "a", (["ann"],)), ("turn", [], []), [[("memo", 0, ["ann"])]]):
            before = copy.deepcopy(value)
            for call in (vault, vault.go, vault.barred, vault.tried, vault.do_all, vault.turn_for, vault.own_key, vault.leads,
                         lambda one: vault.begin(one, one), lambda one: vault.turn(one, one), lambda one: vault.who_had(one, "now"),
                         lambda one: vault[one], lambda one: one in vault, lambda one: one == vault):
                told(call, value)
                self.assertEqual(value, before)

    def test_members_is_a_property_of_ring(self):
        from sealshelf.rings import Ring
        self.assertIsInstance(vars(Ring)["members"], property)
        self.assertTrue(inspect.isgeneratorfunction(vars(Ring)["walk"]))
