"""The form of the package's own files, as far as a short test can see it (LANGUAGE.md, by rule)."""

import ast
import builtins
import pathlib
import re
import unittest

PACKAGE = pathlib.Path(__file__).resolve().parent.parent / "framepost"

STATEMENTS = (
    ast.FunctionDef, ast.ClassDef, ast.Return, ast.Assign, ast.AugAssign, ast.For, ast.While, ast.If, ast.Raise,
    ast.Try, ast.ImportFrom, ast.Expr, ast.Pass, ast.Break, ast.Continue,
)
EXPRESSIONS = (
    ast.BoolOp, ast.BinOp, ast.UnaryOp, ast.Lambda, ast.IfExp, ast.Dict, ast.Set, ast.ListComp, ast.Compare, ast.Call,
    ast.FormattedValue, ast.JoinedStr, ast.Constant, ast.Attribute, ast.Subscript, ast.Name, ast.List, ast.Tuple,
    ast.Slice,
)
OWN_NAMES = set(
    "len range enumerate zip min max sum abs sorted reversed int str bool list tuple dict set frozenset isinstance ord"
    " repr any all divmod Exception ValueError TypeError KeyError IndexError LookupError ZeroDivisionError"
    " ArithmeticError OverflowError RuntimeError NotImplementedError AttributeError StopIteration".split())
METHODS = set(
    "append clear copy count endswith extend find get index insert isalnum isalpha isdigit islower isspace isupper"
    " items join keys ljust lower lstrip partition pop remove replace reverse rfind rjust rpartition rsplit rstrip"
    " setdefault split splitlines startswith strip update upper values zfill bit_length".split())
FORBIDDEN_WORDS = re.compile(
    r"\b(type|typing|typing_extensions|enum|Enum|IntEnum|StrEnum|Flag|IntFlag|Generic|Protocol|ABC|ABCMeta|namedtuple"
    r"|NamedTuple|TypedDict|TYPE_CHECKING|abstractmethod)\b|dataclass|overload|contextmanager")
UNUSED_NAMES = set(
    "register mro elements open input version_info with_traceback add_note attrgetter breakpoint builtins compile"
    " copyright credits delattr dir eval exec exit gc getattr globals hasattr help id importlib license locals"
    " methodcaller os quit setattr super type vars sys".split())
DUNDERS = {"__init__", "__eq__", "__repr__", "__str__", "__len__"}
KEYWORDS = {"key", "reverse", "default", "start", "strict"}
WALKERS = {"list", "tuple", "dict", "sorted", "sum", "any", "all", "enumerate", "zip", "min", "max"}
# What Python's own values have; of these, own methods and values may be called as L26 lists.
TAKEN = {name for kind in (str, int, list, tuple, dict, set, frozenset, bytes) for name in dir(kind)}
FREE_METHODS = METHODS | {"add", "discard"}
FREE_VALUES = set("count index title find get join lower upper split strip copy add".split())


class Form(unittest.TestCase):
    def setUp(self):
        self.files = sorted(PACKAGE.glob("*.py"))
        self.texts = {path.name: path.read_text(encoding="utf-8") for path in self.files}
        self.trees = {name: ast.parse(text) for name, text in self.texts.items()}

    def nodes(self, *kinds):
        for name, tree in self.trees.items():
            for node in ast.walk(tree):
                if isinstance(node, kinds):
                    yield f"{name}:{getattr(node, 'lineno', 0)}", node

    def test_files(self):
        """L1, L14."""
        self.assertIn("__init__.py", self.texts)
        for path in PACKAGE.iterdir():
            if path.name != "__pycache__":
                self.assertTrue(path.is_file() and path.suffix == ".py", path.name)
                self.assertRegex(path.name, r"\A(__init__|[a-z][a-z0-9_]*)\.py\Z")
                self.assertFalse(path.stem.startswith("test") or path.stem in dir(builtins), path.name)

    def test_signs_sizes_and_words(self):
        """L10, L14, L17."""
        for name, text in self.texts.items():
            rows = text.split("\n")
            self.assertLessEqual(len(rows), 400, name)
            for number, row in enumerate(rows, start=1):
                where = f"{name}:{number}"
                self.assertLessEqual(len(row), 120, where)
                self.assertTrue(all(" " <= sign <= "~" for sign in row), where)
                self.assertIsNone(FORBIDDEN_WORDS.search(row), where)
        for where, node in self.nodes(ast.FunctionDef):
            self.assertLessEqual(node.end_lineno - node.lineno + 1, 40, where)

    def test_statements_and_expressions(self):
        """L6, L7, L20, L27."""
        for where, node in self.nodes(ast.stmt):
            self.assertIsInstance(node, STATEMENTS, where)
            self.assertFalse(getattr(node, "finalbody", None), where)
            self.assertFalse(isinstance(node, (ast.For, ast.While)) and node.orelse, where)
            self.assertFalse(isinstance(node, ast.Assign) and len(node.targets) != 1, where)
        for where, node in self.nodes(ast.expr):
            self.assertIsInstance(node, EXPRESSIONS, where)
            self.assertFalse(isinstance(node, ast.BinOp) and isinstance(node.op, ast.Div), where)
            if isinstance(node, ast.Constant):
                self.assertNotIsInstance(node.value, (float, complex, bytes), where)
                self.assertNotIn("%", str(node.value), where)
            if isinstance(node, ast.ListComp):
                self.assertEqual(len(node.generators), 1, where)
                self.assertLessEqual(len(node.generators[0].ifs), 1, where)
            if isinstance(node, ast.Compare) and any(isinstance(op, (ast.Is, ast.IsNot)) for op in node.ops):
                self.assertTrue(all(isinstance(side, ast.Constant) for side in node.comparators), where)

    def test_imports(self):
        """L2, L16."""
        for where, node in self.nodes(ast.ImportFrom):
            self.assertEqual(node.level, 0, where)
            self.assertRegex(node.module, r"\Aframepost\.[a-z]", where)
            source = self.trees[node.module.split(".")[1] + ".py"]
            for alias in node.names:
                self.assertIn(alias.name, self.bound_at_top(source), where)

    def bound_at_top(self, tree):
        names = [node.name for node in tree.body if isinstance(node, (ast.FunctionDef, ast.ClassDef))]
        names += [node.targets[0].id for node in tree.body if isinstance(node, ast.Assign)]
        self.assertEqual(len(names), len(set(names)))
        return names

    def test_no_two_files_draw_from_one_another(self):
        """L16."""
        draws = {name: {node.module.split(".")[1] + ".py" for node in tree.body if isinstance(node, ast.ImportFrom)}
                 for name, tree in self.trees.items()}
        self.assertEqual(draws["__init__.py"], set())
        while draws:
            free = [name for name in draws if not draws[name] & set(draws)]
            self.assertTrue(free, "a ring of imports in " + ", ".join(sorted(draws)))
            for name in free:
                draws.pop(name)

    def test_functions_and_classes(self):
        """L4, L5, L21."""
        for where, node in self.nodes(ast.FunctionDef):
            plain = node.args
            self.assertFalse(node.decorator_list or node.returns, where)
            self.assertFalse(plain.vararg or plain.kwarg or plain.kwonlyargs or plain.posonlyargs, where)
        for where, node in self.nodes(ast.ClassDef):
            self.assertFalse(node.decorator_list or node.keywords, where)
            self.assertLessEqual(len(node.bases), 1, where)

    def test_names(self):
        """L8, L12, L15, L17, L25."""
        own_methods = {node.name for where, node in self.nodes(ast.FunctionDef)}
        for where, node in self.nodes(ast.Name, ast.arg):
            name = node.id if isinstance(node, ast.Name) else node.arg
            self.assertFalse(name.startswith("_"), where)
            self.assertNotIn(name, UNUSED_NAMES, where)
            if name in dir(builtins):
                self.assertIn(name, OWN_NAMES, where)
                self.assertTrue(isinstance(node, ast.Name) and isinstance(node.ctx, ast.Load), where)
        for where, node in self.nodes(ast.Call):
            if isinstance(node.func, ast.Attribute):
                self.assertIn(node.func.attr, METHODS | own_methods | {"__init__"}, where)

    def test_the_top_of_a_module(self):
        """L3."""
        for name, tree in self.trees.items():
            self.assertIsInstance(tree.body[0], ast.Expr, name)
            for node in tree.body[1:]:
                self.assertIsInstance(node, (ast.ImportFrom, ast.FunctionDef, ast.ClassDef, ast.Assign), name)
                if isinstance(node, ast.Assign):
                    ast.literal_eval(node.value)

    def test_class_bodies(self):
        """L5, L18, L28."""
        for where, node in self.nodes(ast.ClassDef):
            self.assertIsInstance(node.body[0], (ast.Expr, ast.FunctionDef), where)
            self.assertTrue(all(isinstance(part, ast.FunctionDef) for part in node.body[1:]), where)
            names = [part.name for part in node.body if isinstance(part, ast.FunctionDef)]
            self.assertEqual(len(names), len(set(names)), where)
            self.assertLessEqual({name for name in names if name.startswith("_")}, DUNDERS, where)
            for method in node.body:
                if isinstance(method, ast.FunctionDef) and method.name == "__init__":
                    self.assertFalse([part for part in ast.walk(method) if isinstance(part, ast.Return)], where)

    def methods(self):
        return {part.name for where, node in self.nodes(ast.ClassDef) for part in node.body
                if isinstance(part, ast.FunctionDef)}

    def test_own_methods_and_values(self):
        """L18, L25, L26."""
        methods = self.methods()
        values = {node.attr for where, node in self.nodes(ast.Attribute) if isinstance(node.ctx, ast.Store)}
        self.assertEqual(methods & values, set())
        self.assertEqual((methods & TAKEN) - FREE_METHODS - DUNDERS, set())
        self.assertEqual((values & TAKEN) - FREE_VALUES, set())
        called = {id(node.func) for where, node in self.nodes(ast.Call)}
        for where, node in self.nodes(ast.Attribute):
            self.assertIn(node.attr, methods | METHODS | values, where)
            self.assertTrue(node.attr in values or id(node) in called, where)

    def test_calls_and_errors(self):
        """L19, L22."""
        for where, node in self.nodes(ast.Call):
            self.assertLessEqual({keyword.arg for keyword in node.keywords}, KEYWORDS, where)
        for where, node in self.nodes(ast.Raise):
            self.assertIsInstance(node.exc, ast.Call, where)

    def test_locals_are_called_like_no_class_or_import_of_their_file(self):
        """L15."""
        for name, tree in self.trees.items():
            taken = {alias.name for node in tree.body if isinstance(node, ast.ImportFrom) for alias in node.names}
            taken |= {node.name for node in tree.body if isinstance(node, ast.ClassDef)}
            for node in ast.walk(tree):
                bound = node.arg if isinstance(node, ast.arg) else None
                if isinstance(node, ast.Name) and isinstance(node.ctx, ast.Store):
                    bound = node.id
                self.assertNotIn(bound, taken, f"{name}: {bound}")

    def parents(self):
        """Each node with the one that it stands in."""
        for name, tree in self.trees.items():
            above = {child: node for node in ast.walk(tree) for child in ast.iter_child_nodes(node)}
            for node, parent in above.items():
                yield f"{name}:{getattr(node, 'lineno', 0)}", node, parent, above

    def test_errors_are_taken_by_their_own_names(self):
        """L19."""
        own = {node.name for node in self.trees["errors.py"].body if isinstance(node, ast.ClassDef)}
        for where, node in self.nodes(ast.ExceptHandler):
            self.assertIsInstance(node.type, ast.Name, where)
            self.assertIn(node.type.id, own, where)

    def test_pythons_own_names_are_called_where_they_stand(self):
        """L22, L24."""
        for where, node, parent, above in self.parents():
            if isinstance(node, ast.Name) and node.id in OWN_NAMES:
                asked = isinstance(parent, ast.Call) and getattr(parent.func, "id", "") == "isinstance"
                base = isinstance(parent, ast.ClassDef)
                self.assertTrue(asked or base or isinstance(parent, ast.Call) and parent.func is node, where)
                self.assertNotIn(node.id, ("set", "frozenset"), where)
            self.assertNotIsInstance(node, ast.Set, where)

    def test_walked_on_the_spot(self):
        """L23."""
        for where, node, parent, above in self.parents():
            if isinstance(node, ast.Call):
                name = getattr(node.func, "id", "") or getattr(node.func, "attr", "")
                if name in ("zip", "enumerate", "reversed", "range", "items", "keys", "values"):
                    walked = isinstance(parent, (ast.For, ast.comprehension)) and parent.iter is node
                    taken = isinstance(parent, ast.Call) and parent.args[0] is node and (
                        getattr(parent.func, "id", "") in WALKERS or getattr(parent.func, "attr", "") == "join")
                    self.assertTrue(walked or taken, where)

    def test_lists_and_dicts_of_a_files_top_are_only_read(self):
        """L15."""
        for name, tree in self.trees.items():
            kept = {node.targets[0].id: node.value for node in tree.body if isinstance(node, ast.Assign)}
            kept = {key for key, value in kept.items() if isinstance(value, (ast.List, ast.Dict))}
            for where, node, parent, above in self.parents():
                if where.startswith(name) and isinstance(node, ast.Name) and node.id in kept and isinstance(node.ctx, ast.Load):
                    read = isinstance(parent, ast.Subscript) and isinstance(parent.ctx, ast.Load) and parent.value is node
                    asked = isinstance(parent, ast.Compare)
                    got = isinstance(parent, ast.Attribute) and parent.attr in ("get", "items", "keys", "values")
                    self.assertTrue(read or asked or got, where)

    def test_classes_are_called_or_asked_for(self):
        """L18."""
        classes = {node.name for where, node in self.nodes(ast.ClassDef)}
        for where, node, parent, above in self.parents():
            if isinstance(node, ast.Name) and node.id in classes:
                self.assertIsInstance(node.ctx, ast.Load, where)
                called = isinstance(parent, ast.Call) and parent.func is node
                self.assertTrue(called or isinstance(parent, (ast.ClassDef, ast.ExceptHandler)) or (
                    isinstance(parent, ast.Attribute) and parent.attr == "__init__"), where)

    def test_escapes(self):
        """L27."""
        for name, text in self.texts.items():
            for number, row in enumerate(text.split("\n"), start=1):
                self.assertIsNone(re.search(r"(?<!\\)(\\\\)*\\[^nt\\'\"]", row), f"{name}:{number}")


if __name__ == "__main__":
    unittest.main()
