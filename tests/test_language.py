"""The package keeps to a small part of Python: what of the rules L1 to L28 can be seen in its files."""

import ast
import builtins
import re
import unittest
from pathlib import Path

PACKAGE = Path(__file__).resolve().parent.parent / "calmwires"
FILES = sorted(PACKAGE.glob("*.py"))

ALLOWED_NODES = tuple(getattr(ast, name) for name in (
    "Module ImportFrom alias FunctionDef ClassDef arguments arg Lambda keyword Load Store "
    "Assign AugAssign If While For Return Break Continue Pass Raise Try ExceptHandler Expr "
    "Constant List Tuple Dict Set BinOp UnaryOp BoolOp Compare IfExp Call Attribute Subscript Slice "
    "ListComp comprehension JoinedStr FormattedValue Name And Or Not USub UAdd Invert "
    "Add Sub Mult FloorDiv Mod Pow BitAnd BitOr BitXor LShift RShift "
    "Eq NotEq Lt LtE Gt GtE Is IsNot In NotIn"
).split())
OWN_NAMES = set((
    "len range enumerate zip min max sum abs sorted reversed int str bool list tuple dict set frozenset isinstance "
    "ord repr any all divmod Exception ValueError TypeError KeyError IndexError LookupError ZeroDivisionError "
    "ArithmeticError OverflowError RuntimeError NotImplementedError AttributeError StopIteration"
).split())
METHODS = set((
    "append clear copy count endswith extend find get index insert isalnum isalpha isdigit islower isspace isupper "
    "items join keys ljust lower lstrip partition pop remove replace reverse rfind rjust rpartition rsplit rstrip "
    "setdefault split splitlines startswith strip update upper values zfill bit_length"
).split())
DUNDERS = {"__init__", "__eq__", "__repr__", "__str__", "__len__"}
UNUSED = set((
    "register mro elements open input version_info with_traceback add_note attrgetter breakpoint builtins compile "
    "copyright credits delattr dir eval exec exit gc getattr globals hasattr help id importlib license locals "
    "methodcaller os quit setattr super type vars sys format format_map chr print sort"
).split())
NOWHERE = re.compile(
    r"\b(type|typing|typing_extensions|enum|Enum|IntEnum|StrEnum|Flag|IntFlag|Generic|Protocol|ABC|ABCMeta|"
    r"namedtuple|NamedTuple|TypedDict|TYPE_CHECKING|abstractmethod)\b|dataclass|overload|contextmanager"
)


def trees():
    return [(path.name, ast.parse(path.read_text())) for path in FILES]


def nodes(*kinds):
    return [(name, node) for name, tree in trees() for node in ast.walk(tree) if isinstance(node, kinds)]


def bound_names(tree):
    for node in ast.walk(tree):
        if isinstance(node, ast.Name) and isinstance(node.ctx, ast.Store):
            yield node.id
        elif isinstance(node, ast.arg):
            yield node.arg
        elif isinstance(node, (ast.FunctionDef, ast.ClassDef)):
            yield node.name
        elif isinstance(node, ast.ExceptHandler) and node.name:
            yield node.name


class Files(unittest.TestCase):
    def test_files(self):
        self.assertIn(PACKAGE / "__init__.py", FILES)
        for path in PACKAGE.iterdir():
            if path.name != "__pycache__":
                self.assertRegex(path.name, r"^([a-z][a-z0-9_]*|__init__|__main__)\.py$")

    def test_signs_and_sizes(self):
        for path in FILES:
            text = path.read_bytes().decode("ascii")
            self.assertRegex(text, r"\A[\n -~]*\Z", path.name)
            rows = text.split("\n")
            self.assertLessEqual(len(rows), 400, path.name)
            self.assertLessEqual(max(len(row) for row in rows), 120, path.name)
            self.assertIsNone(NOWHERE.search(text), path.name)

    def test_functions_are_short(self):
        for name, node in nodes(ast.FunctionDef):
            self.assertLessEqual(node.end_lineno - node.lineno + 1, 40, (name, node.name))

    def test_imports(self):
        drawn = {}
        for path, tree in trees():
            for node in ast.walk(tree):
                if isinstance(node, ast.ImportFrom):
                    self.assertIn(node, tree.body)
                    self.assertEqual(node.level, 0)
                    self.assertRegex(node.module, r"^calmwires\.[a-z_]+$")
                    source = ast.parse((PACKAGE / (node.module.split(".")[1] + ".py")).read_text())
                    own = {part.name for part in source.body if isinstance(part, (ast.FunctionDef, ast.ClassDef))}
                    own |= {part.targets[0].id for part in source.body if isinstance(part, ast.Assign)}
                    self.assertLessEqual({alias.name for alias in node.names}, own)
                    drawn.setdefault(path, set()).add(node.module.split(".")[1] + ".py")
        while drawn:
            free = [path for path in drawn if not drawn[path] & set(drawn)]
            self.assertTrue(free, f"files draw from one another: {drawn}")
            for path in free:
                del drawn[path]


class Forms(unittest.TestCase):
    def test_nodes(self):
        for name, node in nodes(ast.AST):
            self.assertIsInstance(node, ALLOWED_NODES, (name, getattr(node, "lineno", None)))

    def test_top_of_a_file(self):
        for name, tree in trees():
            self.assertIsNotNone(ast.get_docstring(tree), name)
            for node in tree.body[1:]:
                self.assertIsInstance(node, (ast.ImportFrom, ast.FunctionDef, ast.ClassDef, ast.Assign), name)
                if isinstance(node, ast.Assign):
                    ast.literal_eval(node.value)

    def test_assignments_and_loops(self):
        for name, node in nodes(ast.Assign):
            self.assertEqual(len(node.targets), 1, (name, node.lineno))
        for name, node in nodes(ast.For, ast.While):
            self.assertEqual(node.orelse, [], (name, node.lineno))
        for name, node in nodes(ast.Try):
            self.assertEqual(node.finalbody, [], (name, node.lineno))
        for name, node in nodes(ast.ListComp):
            self.assertEqual(len(node.generators), 1, (name, node.lineno))
            self.assertLessEqual(len(node.generators[0].ifs), 1, (name, node.lineno))

    def test_statements_by_themselves_are_calls(self):
        for name, tree in trees():
            for node in ast.walk(tree):
                if isinstance(node, ast.Expr) and node is not tree.body[0]:
                    self.assertIsInstance(node.value, ast.Call, (name, node.lineno))

    def test_functions(self):
        for name, node in nodes(ast.FunctionDef, ast.Lambda):
            some = node.args
            self.assertFalse(some.vararg or some.kwarg or some.kwonlyargs or some.posonlyargs, (name, node.lineno))
        for name, node in nodes(ast.FunctionDef, ast.ClassDef):
            self.assertEqual(node.decorator_list, [], (name, node.name))

    def test_classes(self):
        for name, node in nodes(ast.ClassDef):
            self.assertLessEqual(len(node.bases), 1, (name, node.name))
            for part in node.body:
                self.assertIsInstance(part, (ast.FunctionDef, ast.Pass), (name, node.name))

    def test_values(self):
        for name, node in nodes(ast.Constant):
            self.assertIn(type(node.value), (int, str, bool, type(None)), (name, node.lineno))
            if isinstance(node.value, str):
                self.assertNotIn("%", node.value, (name, node.lineno))
        for name, node in nodes(ast.FormattedValue):
            self.assertIsInstance(node.value, ast.Name, (name, node.lineno))
            self.assertIsNone(node.format_spec, (name, node.lineno))
        for name, node in nodes(ast.Pow):
            self.fail(f"a power in {name}")

    def test_is_stands_beside_none_and_truths(self):
        for name, node in nodes(ast.Compare):
            for sign, right in zip(node.ops, node.comparators):
                if isinstance(sign, (ast.Is, ast.IsNot)):
                    self.assertIsInstance(right, ast.Constant, (name, node.lineno))
                    self.assertIn(right.value, (None, True, False), (name, node.lineno))


def with_parents():
    for path, tree in trees():
        above = {child: node for node in ast.walk(tree) for child in ast.iter_child_nodes(node)}
        for node in ast.walk(tree):
            yield path, node, above


def calls(node, *names):
    return isinstance(node, ast.Call) and isinstance(node.func, ast.Name) and node.func.id in names


class Calls(unittest.TestCase):
    def test_keywords(self):
        allowed = {
            "sorted": {"key", "reverse"}, "min": {"key", "default"}, "max": {"key", "default"}, "sum": {"start"},
            "enumerate": {"start"}, "zip": {"strict"},
        }
        for name, node in nodes(ast.Call):
            if node.keywords:
                self.assertIsInstance(node.func, ast.Name, (name, node.lineno))
                words = {keyword.arg for keyword in node.keywords}
                self.assertLessEqual(words, allowed.get(node.func.id, set()), (name, node.lineno))

    def test_walked_at_once(self):
        for path, node, above in with_parents():
            method = isinstance(node, ast.Call) and isinstance(node.func, ast.Attribute) and node.func.attr
            if calls(node, "zip", "enumerate", "reversed", "range") or method in ("items", "keys", "values"):
                upper = above[node]
                walked = isinstance(upper, (ast.For, ast.comprehension)) and upper.iter is node
                taken = calls(upper, "list", "tuple", "dict", "sorted", "sum", "any", "all", "enumerate", "zip")
                alone = calls(upper, "min", "max") and len(upper.args) == 1
                self.assertTrue(walked or taken or alone, (path, node.lineno))

    def test_sets(self):
        for path, node, above in with_parents():
            if calls(node, "set", "frozenset") or isinstance(node, ast.Set):
                upper = above[node]
                while isinstance(upper, ast.BinOp):
                    self.assertIsInstance(upper.op, (ast.Sub, ast.BitAnd, ast.BitOr, ast.BitXor), (path, node.lineno))
                    upper = above[upper]
                beside = isinstance(upper, ast.Compare) and isinstance(upper.ops[0], (ast.In, ast.NotIn, ast.Eq, ast.NotEq))
                self.assertTrue(beside or calls(upper, "sorted", "len") and not upper.keywords, (path, node.lineno))

    def test_errors_taken(self):
        own = {node.name for path, node in nodes(ast.ClassDef)}
        for name, node in nodes(ast.ExceptHandler):
            self.assertIsInstance(node.type, ast.Name, (name, node.lineno))
            self.assertIn(node.type.id, own | {"KeyError", "ZeroDivisionError", "StopIteration"}, (name, node.lineno))

    def test_errors_raised(self):
        for name, node in nodes(ast.Raise):
            self.assertIsInstance(node.exc, ast.Call, (name, node.lineno))

    def test_no_annotations(self):
        for name, node in nodes(ast.FunctionDef, ast.arg):
            note = node.returns if isinstance(node, ast.FunctionDef) else node.annotation
            self.assertIsNone(note, (name, node.lineno))

    def test_inits_give_back_nothing(self):
        for name, node in nodes(ast.FunctionDef):
            if node.name == "__init__":
                self.assertFalse([part for part in ast.walk(node) if isinstance(part, ast.Return)], (name, node.lineno))


def own_methods():
    return [part.name for path, node in nodes(ast.ClassDef) for part in node.body if isinstance(part, ast.FunctionDef)]


def own_values():
    return [node.attr for path, node in nodes(ast.Attribute) if isinstance(node.ctx, ast.Store)]


class Names(unittest.TestCase):
    def test_methods_and_values(self):
        self.assertEqual(set(own_methods()) & set(own_values()), set())
        python = {name for some in (str, int, list, tuple, dict, set, bytes) for name in dir(some)}
        python |= {name for name in dir(ValueError)}
        allowed = {"count", "index", "title", "find", "get", "join", "lower", "upper", "split", "strip", "copy", "add"}
        self.assertEqual(set(own_values()) & (python - allowed), set())
        self.assertEqual(set(own_methods()) & (python - METHODS - DUNDERS - {"add", "discard"}), set())

    def test_no_method_twice(self):
        for path, node in nodes(ast.ClassDef):
            methods = [part.name for part in node.body if isinstance(part, ast.FunctionDef)]
            self.assertEqual(len(methods), len(set(methods)), (path, node.name))

    def test_classes_are_called_raised_or_taken(self):
        own = {node.name for path, node in nodes(ast.ClassDef)}
        for path, node, above in with_parents():
            if isinstance(node, ast.Name) and node.id in own:
                upper = above[node]
                called = isinstance(upper, ast.Call) and upper.func is node
                base = isinstance(upper, ast.ClassDef) and node in upper.bases
                first = isinstance(upper, ast.Attribute) and upper.attr == "__init__"
                self.assertTrue(called or base or first or isinstance(upper, ast.ExceptHandler), (path, node.lineno))

    def test_what_is_walked_is_not_changed(self):
        changes = {"append", "clear", "extend", "insert", "pop", "remove", "reverse", "setdefault", "update"}
        for path, loop in nodes(ast.For):
            walked = {ast.dump(part) for part in ast.walk(loop.iter) if isinstance(part, (ast.Name, ast.Attribute))}
            for part in [part for row in loop.body for part in ast.walk(row)]:
                if isinstance(part, ast.Call) and isinstance(part.func, ast.Attribute) and part.func.attr in changes:
                    self.assertNotIn(ast.dump(part.func.value), walked, (path, part.lineno))
                if isinstance(part, ast.Subscript) and isinstance(part.ctx, ast.Store):
                    self.assertNotIn(ast.dump(part.value), walked, (path, part.lineno))

    def test_names_bound(self):
        for path, tree in trees():
            for name in bound_names(tree):
                if name not in DUNDERS:
                    self.assertRegex(name, r"^[A-Za-z][A-Za-z0-9_]*$", path)
                    self.assertFalse(hasattr(builtins, name), (path, name))
                    self.assertNotIn(name, UNUSED, path)

    def test_each_name_once_at_the_top(self):
        for path, tree in trees():
            top = [node.name for node in tree.body if isinstance(node, (ast.FunctionDef, ast.ClassDef))]
            top += [node.targets[0].id for node in tree.body if isinstance(node, ast.Assign)]
            top += [alias.name for node in tree.body if isinstance(node, ast.ImportFrom) for alias in node.names]
            self.assertEqual(len(top), len(set(top)), path)
            inner = [node.arg for node in ast.walk(tree) if isinstance(node, ast.arg)]
            for node in ast.walk(tree):
                if isinstance(node, ast.Name) and isinstance(node.ctx, ast.Store) and node.col_offset > 0:
                    inner.append(node.id)
                elif isinstance(node, ast.ExceptHandler) and node.name:
                    inner.append(node.name)
            self.assertEqual(set(inner) & set(top), set(), path)

    def test_names_used(self):
        for path, tree in trees():
            known = set(bound_names(tree))
            known |= {alias.name for node in tree.body if isinstance(node, ast.ImportFrom) for alias in node.names}
            for node in ast.walk(tree):
                if isinstance(node, ast.Name):
                    self.assertTrue(node.id in known or node.id in OWN_NAMES, (path, node.id))

    def test_methods_used(self):
        for path, node in nodes(ast.Call):
            if isinstance(node.func, ast.Attribute):
                self.assertIn(node.func.attr, METHODS | set(own_methods()), (path, node.lineno))
        for path, node in nodes(ast.Attribute):
            self.assertNotIn(node.attr, UNUSED, (path, node.lineno))


if __name__ == "__main__":
    unittest.main()
