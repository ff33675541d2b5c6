"""The form of the package's files, as far as it can be seen from the files alone."""

import ast
import builtins
import pathlib
import re
import unittest

import caretakers

FOLDER = pathlib.Path(caretakers.__file__).parent
FILES = sorted(FOLDER.glob("*.py"))

NODES = (
    ast.Module, ast.ImportFrom, ast.alias, ast.FunctionDef, ast.arguments, ast.arg, ast.ClassDef, ast.Assign,
    ast.AugAssign, ast.If, ast.While, ast.For, ast.Return, ast.Break, ast.Continue, ast.Pass, ast.Raise, ast.Try,
    ast.ExceptHandler, ast.Expr, ast.Constant, ast.List, ast.Tuple, ast.Dict, ast.BinOp, ast.UnaryOp, ast.BoolOp,
    ast.Compare, ast.IfExp, ast.Call, ast.keyword, ast.Attribute, ast.Subscript, ast.Slice, ast.ListComp,
    ast.comprehension, ast.JoinedStr, ast.FormattedValue, ast.Lambda, ast.Name, ast.Load, ast.Store,
    ast.operator, ast.unaryop, ast.boolop, ast.cmpop,
)
OWN_NAMES = (
    "len range enumerate zip min max sum abs sorted reversed int str bool list tuple dict set frozenset isinstance ord "
    "repr any all divmod Exception ValueError TypeError KeyError IndexError LookupError ZeroDivisionError "
    "ArithmeticError OverflowError RuntimeError NotImplementedError StopIteration"
).split()
METHODS = (
    "append clear copy count endswith extend find get index insert isalnum isalpha isdigit islower isspace isupper "
    "items join keys ljust lower lstrip partition pop remove replace reverse rfind rjust rpartition rsplit rstrip "
    "setdefault split splitlines startswith strip update upper values zfill bit_length"
).split()
WORDS = re.compile(
    r"\b(type|typing|typing_extensions|enum|Enum|IntEnum|StrEnum|Flag|IntFlag|Generic|Protocol|ABC|ABCMeta|namedtuple"
    r"|NamedTuple|TypedDict|TYPE_CHECKING|abstractmethod)\b|dataclass|overload|contextmanager"
)
WALKED = ("range", "zip", "enumerate", "reversed")
WALKERS = ("list", "tuple", "dict", "sorted", "sum", "any", "all", "enumerate", "zip", "min", "max")
KEYWORDS = {
    "sorted": ("key", "reverse"), "min": ("key", "default"), "max": ("key", "default"), "sum": ("start",),
    "enumerate": ("start",), "zip": ("strict",),
}
NAME = re.compile(r"[A-Za-z][A-Za-z0-9_]*\Z")


def tree_of(path):
    return ast.parse(path.read_text(encoding="utf-8"))


def all_nodes():
    return [(path.name, node) for path in FILES for node in ast.walk(tree_of(path))]


def bound_names(node):
    if isinstance(node, (ast.FunctionDef, ast.ClassDef)):
        return [node.name]
    if isinstance(node, ast.arg):
        return [node.arg]
    if isinstance(node, ast.Name) and isinstance(node.ctx, ast.Store):
        return [node.id]
    if isinstance(node, ast.Attribute) and isinstance(node.ctx, ast.Store):
        return [node.attr]
    return []


class Form(unittest.TestCase):
    def test_nothing_but_files_of_the_package_lies_in_its_folder(self):
        names = [path.name for path in FOLDER.iterdir() if path.name != "__pycache__"]
        self.assertEqual(sorted(names), [path.name for path in FILES])
        self.assertIn("__init__.py", names)

    def test_signs_rows_and_words(self):
        for path in FILES:
            text = path.read_text(encoding="utf-8")
            self.assertLessEqual({ord(sign) for sign in text}, {10, *range(32, 127)}, path.name)
            rows = text.splitlines()
            self.assertLessEqual(len(rows), 400, path.name)
            self.assertLessEqual(max(len(row) for row in rows), 120, path.name)
            self.assertIsNone(WORDS.search(text), path.name)

    def test_functions_are_small_and_plain(self):
        for name, node in all_nodes():
            if isinstance(node, ast.FunctionDef):
                self.assertLessEqual(node.end_lineno - node.lineno + 1, 40, (name, node.name))
                self.assertEqual(node.decorator_list, [], (name, node.name))
                self.assertEqual((node.args.vararg, node.args.kwarg, node.args.kwonlyargs), (None, None, []))

    def test_only_the_forms_that_are_allowed(self):
        for name, node in all_nodes():
            self.assertIsInstance(node, NODES, (name, getattr(node, "lineno", 0)))
            self.assertNotIsInstance(node, (ast.Div, ast.MatMult, ast.Pow), name)
            if isinstance(node, ast.Constant):
                self.assertIn(type(node.value), (int, str, bool, type(None)), (name, node.lineno))
            if isinstance(node, ast.Assign):
                self.assertEqual(len(node.targets), 1, (name, node.lineno))
                self.assertNotIsInstance(node.targets[0], (ast.Tuple, ast.List), (name, node.lineno))
            if isinstance(node, (ast.For, ast.While)):
                self.assertEqual(node.orelse, [], (name, node.lineno))

    def test_imports_are_the_packages_own(self):
        for name, node in all_nodes():
            if isinstance(node, ast.ImportFrom):
                self.assertEqual(node.level, 0, (name, node.lineno))
                self.assertRegex(node.module, r"\Acaretakers\.[a-z_]+\Z", (name, node.lineno))
                self.assertNotIn("*", [alias.name for alias in node.names])

    def test_no_two_files_draw_from_one_another(self):
        drawn = {}
        for path in FILES:
            froms = [node.module for node in ast.walk(tree_of(path)) if isinstance(node, ast.ImportFrom)]
            drawn["caretakers." + path.stem] = set(froms)
        while drawn:
            free = [name for name in drawn if not drawn[name] & set(drawn)]
            self.assertNotEqual(free, [], drawn)
            for name in free:
                del drawn[name]

    def test_names(self):
        for name, node in all_nodes():
            for bound in bound_names(node):
                if bound == "__init__":
                    continue
                self.assertRegex(bound, NAME, name)
                if not isinstance(node, ast.Attribute):
                    self.assertFalse(hasattr(builtins, bound), (name, bound))
            if isinstance(node, ast.Name) and hasattr(builtins, node.id):
                self.assertIn(node.id, OWN_NAMES, (name, node.lineno))

    def test_methods_called_are_own_ones_or_allowed_ones(self):
        nodes = all_nodes()
        own = [item.name for name, node in nodes if isinstance(node, ast.ClassDef) for item in node.body
               if isinstance(item, ast.FunctionDef)]
        values = [node.attr for name, node in nodes if isinstance(node, ast.Attribute)
                  and isinstance(node.ctx, ast.Store)]
        self.assertEqual(set(own) & set(values), set())
        taken = {attr for kind in (str, int, list, dict, set, bytes) for attr in dir(kind)}
        self.assertEqual((set(own) | set(values)) & taken, {"__init__"})
        for name, node in nodes:
            if isinstance(node, ast.Call) and isinstance(node.func, ast.Attribute):
                self.assertIn(node.func.attr, METHODS + own, (name, node.lineno))

    def test_is_stands_beside_none_true_and_false_alone(self):
        for name, node in all_nodes():
            if isinstance(node, ast.Compare):
                for operator, right in zip(node.ops, node.comparators):
                    if isinstance(operator, (ast.Is, ast.IsNot)):
                        self.assertIsInstance(right, ast.Constant, (name, node.lineno))
                        self.assertIn(right.value, (None, True, False), (name, node.lineno))

    def test_what_is_walked_is_walked_at_once(self):
        for path in FILES:
            walked = []
            for node in ast.walk(tree_of(path)):
                if isinstance(node, (ast.For, ast.comprehension)):
                    walked.append(ast.dump(node.iter, include_attributes=True))
                elif isinstance(node, ast.Call) and getattr(node.func, "id", "") in WALKERS and node.args:
                    walked.append(ast.dump(node.args[0], include_attributes=True))
            for node in ast.walk(tree_of(path)):
                if isinstance(node, ast.Call) and getattr(node.func, "id", "") in WALKED:
                    self.assertIn(ast.dump(node, include_attributes=True), walked, (path.name, node.lineno))

    def test_keywords_are_those_that_are_allowed(self):
        own = [node.name for name, node in all_nodes() if isinstance(node, (ast.FunctionDef, ast.ClassDef))]
        for name, node in all_nodes():
            if isinstance(node, ast.Call) and getattr(node.func, "id", "") not in own:
                allowed = KEYWORDS.get(getattr(node.func, "id", ""), ())
                for keyword in node.keywords:
                    self.assertIn(keyword.arg, allowed, (name, node.lineno))

    def test_values_at_a_files_top_are_plain(self):
        for path in FILES:
            above = []
            for node in tree_of(path).body:
                if isinstance(node, ast.FunctionDef):
                    above.append(node.name)
                if not isinstance(node, ast.Assign):
                    continue
                for part in ast.walk(node.value):
                    self.assertIsInstance(part, (ast.Constant, ast.UnaryOp, ast.USub, ast.List, ast.Tuple, ast.Dict,
                                                 ast.Name, ast.Load), (path.name, node.lineno))
                    if isinstance(part, ast.Name):
                        self.assertIn(part.id, above, (path.name, node.lineno))
                    if part is not node.value:
                        self.assertNotIsInstance(part, (ast.List, ast.Dict), (path.name, node.lineno))

    def test_what_stands_at_a_files_top(self):
        for path in FILES:
            bound = []
            for node in tree_of(path).body:
                self.assertIsInstance(node, (ast.Expr, ast.ImportFrom, ast.FunctionDef, ast.ClassDef, ast.Assign))
                if isinstance(node, ast.ImportFrom):
                    bound.extend(alias.name for alias in node.names)
                elif isinstance(node, ast.Assign):
                    bound.append(node.targets[0].id)
                elif isinstance(node, ast.Expr):
                    self.assertIsInstance(node.value, ast.Constant, path.name)
                else:
                    bound.append(node.name)
            self.assertEqual(len(bound), len(set(bound)), path.name)
            for node in ast.walk(tree_of(path)):
                if isinstance(node, ast.arg):
                    self.assertNotIn(node.arg, bound, path.name)
                if isinstance(node, ast.Name) and isinstance(node.ctx, ast.Store) and node.col_offset > 0:
                    self.assertNotIn(node.id, bound, path.name)


if __name__ == "__main__":
    unittest.main()
