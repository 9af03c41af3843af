"""The package keeps to the language that it is written in, as far as that can be seen from its text.

These are the rules of LANGUAGE.md that a walk through the syntax trees can check, in a narrower form where
the program does not need the wider one: the numbers in the messages are those of the rules.
"""

import ast
import builtins
import os
import re
import tokenize
import unittest

PACKAGE = "sealshelf"
FOLDER = os.path.join(os.path.dirname(os.path.dirname(os.path.abspath(__file__))), PACKAGE)
FILES = sorted(name for name in os.listdir(FOLDER) if name != "__pycache__")

BUILTINS = set("len range enumerate zip min max sum abs sorted reversed int str bool list tuple dict set isinstance ord repr "
               "any all divmod super property classmethod ValueError TypeError".split())
METHODS = set("append clear copy count endswith extend find get index insert isalnum isalpha isdigit islower isspace "
              "isupper items join keys ljust lower lstrip partition pop remove replace reverse rfind rjust rpartition "
              "rsplit rstrip setdefault split splitlines startswith strip update upper values zfill bit_length".split())
CHANGING = set("append clear extend insert pop remove reverse setdefault update".split())
DUNDERS = set("__init__ __eq__ __repr__ __str__ __len__ __enter__ __exit__ __call__ __iter__ __lt__ __le__ __gt__ __ge__ "
              "__ne__ __add__ __sub__ __mul__ __and__ __or__ __xor__ __contains__ __getitem__ __setitem__ "
              "__bool__".split())
NEVER = set("register mro elements open input law version_info with_traceback add_note".split())
NO_NAMES = set("attrgetter breakpoint builtins compile copyright credits delattr dir eval exec exit gc getattr globals "
               "hasattr help id importlib license locals methodcaller os quit setattr type vars sys iter next map "
               "heapq math itertools chr".split())
NO_WORDS = set("type typing typing_extensions enum Enum IntEnum StrEnum Flag IntFlag Generic Protocol ABC ABCMeta "
               "namedtuple NamedTuple TypedDict TYPE_CHECKING abstractmethod dataclass overload contextmanager "
               "_wall _WallAttr Meta".split())
NO_ATTRIBUTES = set("items keys values pop update append clear extend insert remove reverse setdefault sort args encode "
                    "decode hex fromhex format mro format_map".split())
NO_NODES = (ast.GeneratorExp, ast.Lambda, ast.Global, ast.Nonlocal, ast.AsyncFunctionDef, ast.Await, ast.With,
            ast.Match, ast.NamedExpr, ast.AnnAssign, ast.Div, ast.Pow, ast.Import, ast.Assert)
AT_ONCE = ("list", "tuple", "dict", "sorted", "sum", "any", "all", "enumerate", "zip", "min", "max")


def read(name):
    with open(os.path.join(FOLDER, name), encoding="utf-8", newline="") as file:
        return file.read()


class Language(unittest.TestCase):
    def setUp(self):
        self.texts = {name: read(name) for name in FILES}
        self.trees = {name: ast.parse(text) for name, text in self.texts.items()}
        for tree in self.trees.values():
            for node in ast.walk(tree):
                for child in ast.iter_child_nodes(node):
                    child.parent = node
        self.methods = {part.name for _, node in self.nodes(ast.ClassDef) for part in node.body
                        if isinstance(part, ast.FunctionDef)}
        self.classes = {node.name for _, node in self.nodes(ast.ClassDef)}
        self.assigned = {node.attr for _, node in self.nodes(ast.Attribute) if isinstance(node.ctx, ast.Store)}

    def nodes(self, *kinds):
        for name, tree in self.trees.items():
            for node in ast.walk(tree):
                if isinstance(node, kinds):
                    yield f"{name}:{getattr(node, 'lineno', 0)}", node

    def test_files(self):
        for name in FILES:
            self.assertRegex(name, r"^[a-z_]+\.py$", "L1")
            self.assertNotIn(name, [word + ".py" for word in NO_NAMES | NEVER | set(dir(builtins))], "L14")
        self.assertIn("__init__.py", FILES, "L14")

    def test_characters_and_sizes(self):
        for name, text in self.texts.items():
            self.assertEqual(set(re.findall(r"[^ -~\n]", text)), set(), "L14 " + name)
            self.assertLessEqual(text.count("\n"), 399, "L10 " + name)
            self.assertLessEqual(max(map(len, text.split("\n"))), 120, "L10 " + name)
        for at, node in self.nodes(ast.FunctionDef):
            self.assertLessEqual(node.end_lineno - node.lineno + 1, 40, "L10 " + at)

    def test_imports(self):
        defined = {name[:-3]: {node.name for node in tree.body if isinstance(node, (ast.FunctionDef, ast.ClassDef))} | {
            target.id for node in tree.body if isinstance(node, ast.Assign) for target in node.targets}
                   for name, tree in self.trees.items()}
        edges = {}
        for at, node in self.nodes(ast.ImportFrom):
            package, _, module = node.module.partition(".")
            self.assertEqual((node.level, package), (0, PACKAGE), "L2 " + at)
            for alias in node.names:
                self.assertIsNone(alias.asname, "L16 " + at)
                self.assertIn(alias.name, defined[module], "L16 " + at)
            self.assertIsInstance(node.parent, ast.Module, "L2 " + at)
            edges.setdefault(at.split(".")[0], set()).add(module)
        while edges:
            ends = [name for name, behind in edges.items() if not behind & set(edges)]
            self.assertTrue(ends, f"L16: a circle of imports in {edges}")
            for name in ends:
                del edges[name]

    def test_module_level(self):
        for name, tree in self.trees.items():
            bound = []
            for node in tree.body:
                if isinstance(node, ast.ImportFrom):
                    bound += [alias.name for alias in node.names]
                elif isinstance(node, (ast.FunctionDef, ast.ClassDef)):
                    bound.append(node.name)
                elif isinstance(node, ast.Assign):
                    value = ast.literal_eval(node.value)
                    self.assertIsInstance(value, (int, str, tuple, dict), "L3 " + name)
                    if isinstance(value, dict):
                        self.assertTrue(all(isinstance(one, tuple) for one in value.values()), "L15 " + name)
                    bound.append(node.targets[0].id)
                else:
                    self.assertTrue(isinstance(node, ast.Expr) and isinstance(node.value.value, str), "L3 " + name)
            self.assertEqual(len(bound), len(set(bound)), "L15 " + name)
            for node in ast.walk(tree):
                if isinstance(node, ast.Name) and isinstance(node.ctx, ast.Store) or isinstance(node, ast.arg):
                    local = getattr(node, "id", None) or node.arg
                    if not isinstance(node.parent.parent, ast.Module):
                        self.assertNotIn(local, bound, f"L15 {name}:{node.lineno}")

    def test_names(self):
        known = set(dir(builtins))
        for at, node in self.nodes(ast.Name, ast.arg, ast.FunctionDef, ast.ClassDef, ast.Attribute, ast.keyword):
            word = next(getattr(node, key) for key in ("id", "name", "attr", "arg") if hasattr(node, key))
            stored = not isinstance(node, ast.Name) or isinstance(node.ctx, ast.Store)
            self.assertNotIn(word, NEVER, "L17 " + at)
            if not isinstance(node, (ast.Attribute, ast.keyword)):
                self.assertNotIn(word, NO_NAMES, "L17 " + at)
                if stored:
                    self.assertNotIn(word, known, "L15 " + at)
                elif word in known:
                    self.assertIn(word, BUILTINS, "L8 " + at)
            if word.startswith("__"):
                self.assertIn(word, DUNDERS, "L8 " + at)
        for name, text in self.texts.items():
            for token in tokenize.generate_tokens(iter(text.splitlines(True)).__next__):
                if token.type == tokenize.NAME:
                    self.assertNotIn(token.string, NO_WORDS, "L17 " + name)
                elif token.type == tokenize.STRING:
                    self.assertNotIn("%", token.string, "L27 " + name)
                    self.assertEqual(re.findall(r"\\[^nt\\'\"]", token.string), [], "L27 " + name)
                    self.assertNotRegex(token.string, r"\._+['\"]|['\"]__", "L27 " + name)

    def test_statements_and_expressions(self):
        for at, node in self.nodes(*NO_NODES):
            self.fail(f"{type(node).__name__} {at}")
        for at, node in self.nodes(ast.Delete):
            self.assertTrue(all(isinstance(target, ast.Subscript) for target in node.targets), "L6 " + at)
        for at, node in self.nodes(ast.Try):
            self.assertFalse(node.finalbody or node.orelse, "L6 " + at)
            for handler in node.handlers:
                self.assertIn(handler.type.id, self.classes, "L19 " + at)
                for part in ast.walk(handler):
                    if isinstance(part, ast.Name) and part.id == handler.name:
                        self.assertIsInstance(part.parent, ast.Attribute, "L19 " + at)
        for at, node in self.nodes(ast.Constant):
            self.assertNotIsInstance(node.value, (float, complex, bytes), "L7 " + at)
        for at, node in self.nodes(ast.Compare):
            for sign, right in zip(node.ops, node.comparators):
                if isinstance(sign, (ast.Is, ast.IsNot)):
                    self.assertIn(getattr(right, "value", 0), (None, True, False), "L20 " + at)
                    self.assertIsInstance(right, ast.Constant, "L20 " + at)
        for at, node in self.nodes(ast.Subscript):
            self.assertNotIsInstance(node.value, ast.Constant, "L7 " + at)

    def test_sets_stand_in_sorted_len_in_alone(self):
        for at, node in self.nodes(ast.SetComp, ast.Set, ast.Call):
            if isinstance(node, ast.Call) and getattr(node.func, "id", "") != "set":
                continue
            parent = node.parent
            sort = isinstance(parent, ast.Call) and getattr(parent.func, "id", "") in ("sorted", "len")
            self.assertTrue(sort and not parent.keywords, "L24 " + at)

    def test_ranges_and_views_are_iterated_at_once(self):
        for at, node in self.nodes(ast.Call):
            word = getattr(node.func, "id", "") or getattr(node.func, "attr", "")
            if word in ("range", "zip", "enumerate", "reversed", "items", "values", "keys"):
                parent = node.parent
                loop = isinstance(parent, (ast.For, ast.comprehension)) and parent.iter is node
                call = isinstance(parent, ast.Call) and getattr(parent.func, "id", "") in AT_ONCE
                self.assertTrue(loop or call, "L23 " + at)
            if word == "isinstance":
                self.assertIsInstance(node.args[1], ast.Name, "L22 " + at)

    def test_methods_and_attributes(self):
        for at, node in self.nodes(ast.Call):
            if isinstance(node.func, ast.Attribute):
                self.assertIn(node.func.attr, METHODS | self.methods | {"__init__"}, "L25 " + at)
                if node.func.attr == "__init__":
                    self.assertEqual(node.args[0].id, "self", "L28 " + at)
        for at, node in self.nodes(ast.Attribute):
            if not (isinstance(node.parent, ast.Call) and node.parent.func is node) and node.attr != "setter":
                self.assertIn(node.attr, self.assigned | self.methods, "L18 " + at)
                self.assertNotIn(node.attr, NO_ATTRIBUTES, "L26 " + at)
        for word in self.methods:
            self.assertNotIn(word, dir(str) + dir(int) + dir(dict) + dir(set) + dir(list) if word not in DUNDERS else (),
                             "L26 " + word)

    def test_functions(self):
        for at, node in self.nodes(ast.FunctionDef):
            self.assertIsNone(node.returns, "L21 " + at)
            for decorator in node.decorator_list:
                self.assertIn(getattr(decorator, "id", ""), ("property", "classmethod"), "L4 " + at)
            for part in node.args.args + node.args.kwonlyargs:
                self.assertIsNone(part.annotation, "L21 " + at)
            for value in node.args.defaults + [value for value in node.args.kw_defaults if value]:
                ast.literal_eval(value)
            assigned = {part.id for part in ast.walk(node) if isinstance(part, ast.Name) and
                        isinstance(part.ctx, ast.Store)}
            for inner in ast.walk(node):
                if inner is not node and isinstance(inner, ast.FunctionDef):
                    for part in ast.walk(inner):
                        if isinstance(part, ast.Name) and isinstance(part.ctx, ast.Store):
                            own = sum(isinstance(other, ast.Name) and other.id == part.id and
                                      isinstance(other.ctx, ast.Store) for other in ast.walk(node))
                            inside = sum(isinstance(other, ast.Name) and other.id == part.id and
                                         isinstance(other.ctx, ast.Store) for other in ast.walk(inner))
                            self.assertEqual(own, inside, "L4 " + at)
            self.assertFalse(assigned & self.classes, "L15 " + at)
        for at, node in self.nodes(ast.ClassDef):
            self.assertFalse(node.decorator_list, "L5 " + at)
            names = [part.name for part in node.body if isinstance(part, ast.FunctionDef)]
            self.assertEqual(len(names), len(set(names)), "L18 " + at)
            stored = {part.attr for part in ast.walk(node) if isinstance(part, ast.Attribute) and
                      isinstance(part.ctx, ast.Store)}
            self.assertFalse(stored & set(names), "L18 " + at)
            for part in node.body:
                self.assertIsInstance(part, (ast.FunctionDef, ast.Expr), "L5 " + at)

    def test_no_attribute_has_the_name_of_a_method(self):
        self.assertEqual(self.methods & self.assigned, set(), "L18")

    def test_tables_are_read_by_an_index_or_asked_alone(self):
        for name, tree in self.trees.items():
            tables = {node.targets[0].id for node in tree.body if isinstance(node, ast.Assign) and isinstance(
                node.value, ast.Dict)}
            tables |= {alias.name for node in tree.body if isinstance(node, ast.ImportFrom) for alias in node.names
                       if alias.name.isupper()}
            for node in ast.walk(tree):
                if isinstance(node, ast.Name) and node.id in tables and isinstance(node.ctx, ast.Load):
                    index = isinstance(node.parent, ast.Subscript) and isinstance(node.parent.ctx, ast.Load)
                    asked = isinstance(node.parent, ast.Compare) and isinstance(node.parent.ops[0], (ast.In, ast.NotIn))
                    self.assertTrue(index or asked, f"L15 {name}:{node.lineno}")

    def test_stars_in_calls(self):
        for at, node in self.nodes(ast.Call):
            for part in node.args:
                if isinstance(part, ast.Starred):
                    plain = isinstance(part.value, ast.Name) or isinstance(part.value, ast.Attribute) and isinstance(
                        part.value.value, ast.Name)
                    self.assertTrue(plain, "L7 " + at)

    def test_generators_are_iterated_at_once(self):
        generators = {node.name for _, node in self.nodes(ast.FunctionDef) if any(
            isinstance(part, (ast.Yield, ast.YieldFrom)) for part in ast.walk(node))}
        for at, node in self.nodes(ast.Call):
            if (getattr(node.func, "id", "") or getattr(node.func, "attr", "")) in generators:
                loop = isinstance(node.parent, (ast.For, ast.comprehension)) and node.parent.iter is node
                call = isinstance(node.parent, ast.Call) and getattr(node.parent.func, "id", "") in AT_ONCE
                self.assertTrue(loop or call, "L23 " + at)

    def test_generators(self):
        generators = [node.name for _, node in self.nodes(ast.FunctionDef) if any(
            isinstance(part, (ast.Yield, ast.YieldFrom)) for part in ast.walk(node))]
        plain = [node.name for _, node in self.nodes(ast.FunctionDef) if node.name not in generators]
        self.assertFalse(set(generators) & (set(plain) | METHODS), "L23")
        for at, node in self.nodes(ast.Yield, ast.YieldFrom):
            self.assertIsInstance(node.parent, ast.Expr, "L23 " + at)

    def test_loops_do_not_change_what_they_go_over(self):
        for at, loop in self.nodes(ast.For, ast.ListComp, ast.SetComp, ast.DictComp):
            heads = [loop.iter] if isinstance(loop, ast.For) else [part.iter for part in loop.generators]
            over = {part.id for head in heads for part in ast.walk(head) if isinstance(part, ast.Name)}
            for part in ast.walk(loop):
                if isinstance(part, ast.Call) and isinstance(part.func, ast.Attribute) and part.func.attr in CHANGING:
                    self.assertNotIn(getattr(part.func.value, "id", ""), over, "L23 " + at)
                if isinstance(part, ast.Subscript) and isinstance(part.ctx, ast.Store):
                    self.assertNotIn(getattr(part.value, "id", ""), over, "L23 " + at)

    def test_special_methods(self):
        for at, node in self.nodes(ast.FunctionDef):
            returns = [part.value for part in ast.walk(node) if isinstance(part, ast.Return)]
            if node.name == "__init__":
                self.assertFalse(returns, "L28 " + at)
            if node.name == "__len__":
                self.assertTrue(all(value.func.id == "len" for value in returns), "L28 " + at)
            if node.name in ("__str__", "__repr__"):
                self.assertTrue(all(value.func.id in ("str", "repr") for value in returns), "L28 " + at)

    def test_super(self):
        for at, node in self.nodes(ast.Call):
            if getattr(node.func, "id", "") == "super":
                self.assertIsInstance(node.parent.parent, ast.Call, "L5 " + at)
                place = node.parent
                while not isinstance(place, ast.FunctionDef):
                    place = place.parent
                    self.assertNotIsInstance(place, (ast.ListComp, ast.SetComp, ast.DictComp), "L5 " + at)
                self.assertIsInstance(place.parent, ast.ClassDef, "L5 " + at)

    def test_python_gives_no_warning(self):
        import warnings
        with warnings.catch_warnings():
            warnings.simplefilter("error")
            for name, text in self.texts.items():
                compile(text, name, "exec")
