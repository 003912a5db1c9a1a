"""The form of the package's own files: what of LANGUAGE.md can be seen rule by rule in the text of a file.

Not all that a rule says can be seen here; what is seen is a guard, not a proof.
"""

import ast
import builtins
import re
import unittest
from pathlib import Path

PACKAGE = Path(__file__).resolve().parent.parent / "dealtables"
OWN_NAMES = set(
    "len range enumerate zip min max sum abs sorted reversed int str bool list tuple dict set frozenset isinstance "
    "ord repr any all divmod Exception ValueError TypeError KeyError IndexError LookupError ZeroDivisionError "
    "ArithmeticError OverflowError RuntimeError NotImplementedError AttributeError StopIteration".split()
)
METHODS = set(
    "append clear copy count endswith extend find get index insert isalnum isalpha isdigit islower isspace isupper "
    "items join keys ljust lower lstrip partition pop remove replace reverse rfind rjust rpartition rsplit rstrip "
    "setdefault split splitlines startswith strip update upper values zfill bit_length".split()
)
TWO_UNDERSCORES = {"__init__", "__eq__", "__repr__", "__str__", "__len__"}
BARRED_WORDS = (
    "type typing typing_extensions enum Enum IntEnum StrEnum Flag IntFlag Generic Protocol ABC ABCMeta namedtuple "
    "NamedTuple TypedDict TYPE_CHECKING abstractmethod".split()
)
BARRED_PIECES = ("dataclass", "overload", "contextmanager")
BARRED_NAMES = set(
    "register mro elements open input version_info with_traceback add_note attrgetter breakpoint builtins compile "
    "copyright credits delattr dir eval exec exit gc getattr globals hasattr help id importlib license locals "
    "methodcaller os quit setattr super vars sys format format_map print chr".split()
)
NODES = (
    ast.Module, ast.FunctionDef, ast.arguments, ast.arg, ast.ClassDef, ast.ImportFrom, ast.alias, ast.Assign,
    ast.AugAssign, ast.If, ast.While, ast.For, ast.Return, ast.Break, ast.Continue, ast.Pass, ast.Raise, ast.Try,
    ast.ExceptHandler, ast.Expr, ast.Constant, ast.Name, ast.List, ast.Tuple, ast.Dict, ast.Set, ast.BinOp,
    ast.UnaryOp, ast.BoolOp, ast.Compare, ast.IfExp, ast.Call, ast.keyword, ast.Attribute, ast.Subscript, ast.Slice,
    ast.ListComp, ast.comprehension, ast.JoinedStr, ast.FormattedValue, ast.Lambda, ast.expr_context, ast.boolop,
    ast.operator, ast.unaryop, ast.cmpop,
)
BARRED_NODES = (ast.Div, ast.MatMult)
WALKED_AT_ONCE = ("zip", "enumerate", "reversed", "range", "items", "keys", "values")
WALKERS = ("list", "tuple", "dict", "sorted", "sum", "any", "all", "enumerate", "zip")


def package_files():
    return sorted(PACKAGE.glob("*.py"))


def trees():
    return [(path.name, ast.parse(path.read_text("utf-8"))) for path in package_files()]


def nodes_of(*kinds):
    """Each node of these kinds in all files, with words that tell its place."""
    return [(f"{name}:{getattr(node, 'lineno', 0)}", node)
            for name, tree in trees() for node in ast.walk(tree) if isinstance(node, kinds)]


def bound_at_top(tree):
    names = []
    for part in tree.body:
        if isinstance(part, (ast.FunctionDef, ast.ClassDef)):
            names.append(part.name)
        elif isinstance(part, ast.Assign):
            names.extend([target.id for target in part.targets])
        elif isinstance(part, ast.ImportFrom):
            names.extend([name.asname or name.name for name in part.names])
    return names


def bound_within(tree):
    parameters = [node.arg for node in ast.walk(tree) if isinstance(node, ast.arg)]
    names = [node for node in ast.walk(tree) if isinstance(node, ast.Name)]
    return parameters + [node.id for node in names if isinstance(node.ctx, ast.Store)]


class Files(unittest.TestCase):
    def test_l1_l14_nothing_but_plain_files(self):
        for path in PACKAGE.iterdir():
            if path.name != "__pycache__":
                self.assertRegex(path.name, r"^([a-z0-9][a-z0-9_]*|__init__|__main__)\.py$")
        self.assertTrue((PACKAGE / "__init__.py").exists())

    def test_l10_l14_sizes_and_signs(self):
        for path in package_files():
            data = path.read_bytes()
            self.assertTrue(all(sign == 10 or 32 <= sign <= 126 for sign in data), path.name)
            lines = data.decode("ascii").split("\n")
            self.assertLessEqual(len(lines) - 1, 400, path.name)
            self.assertLessEqual(max(map(len, lines)), 120, path.name)

    def test_l10_functions_are_short(self):
        for place, node in nodes_of(ast.FunctionDef):
            self.assertLessEqual(node.end_lineno - node.lineno + 1, 40, place)

    def test_l17_words_that_stand_nowhere(self):
        for path in package_files():
            text = path.read_text("utf-8")
            for word in BARRED_WORDS:
                self.assertIsNone(re.search(r"\b" + word + r"\b", text), (path.name, word))
            for piece in BARRED_PIECES:
                self.assertNotIn(piece, text, path.name)


class Modules(unittest.TestCase):
    def test_l2_l16_imports(self):
        for name, tree in trees():
            for node in ast.walk(tree):
                if isinstance(node, ast.ImportFrom):
                    self.assertIn(node, tree.body, name)
                    self.assertEqual(node.level, 0, name)
                    self.assertTrue(node.module.startswith("dealtables."), name)
                    home = ast.parse((PACKAGE / (node.module.split(".")[1] + ".py")).read_text("utf-8"))
                    defined = bound_at_top(home)
                    self.assertTrue(all(part.name in defined for part in node.names), (name, node.module))

    def test_l16_no_two_files_draw_from_one_another(self):
        drawn = {name[:-3]: [node.module.split(".")[1] for node in ast.walk(tree) if isinstance(node, ast.ImportFrom)]
                 for name, tree in trees()}
        settled = []
        while len(settled) < len(drawn):
            free = [name for name in drawn if name not in settled and all(part in settled for part in drawn[name])]
            self.assertTrue(free, "some files draw from one another")
            settled.extend(free)

    def test_l3_l15_the_top_of_a_file(self):
        for name, tree in trees():
            self.assertTrue(ast.get_docstring(tree), name)
            for part in tree.body[1:]:
                self.assertIsInstance(part, (ast.ImportFrom, ast.FunctionDef, ast.ClassDef, ast.Assign), name)
            names = bound_at_top(tree)
            self.assertEqual(len(names), len(set(names)), name)
            self.assertFalse(set(names) & OWN_NAMES, name)

    def test_l15_locals(self):
        for name, tree in trees():
            barred = set(dir(builtins))
            for part in tree.body:
                if isinstance(part, ast.ClassDef):
                    barred.add(part.name)
                if isinstance(part, ast.ImportFrom):
                    barred.update([each.name for each in part.names])
            self.assertFalse(set(bound_within(tree)) & barred, name)


class Language(unittest.TestCase):
    def test_l6_l7_nodes(self):
        for place, node in nodes_of(ast.AST):
            self.assertIsInstance(node, NODES, place)
            self.assertNotIsInstance(node, BARRED_NODES, place)

    def test_l4_functions(self):
        for place, node in nodes_of(ast.FunctionDef, ast.ClassDef):
            self.assertEqual(node.decorator_list, [], place)
        for place, node in nodes_of(ast.arguments):
            self.assertFalse(node.vararg or node.kwarg or node.kwonlyargs or node.posonlyargs, place)

    def test_l5_classes(self):
        for place, node in nodes_of(ast.ClassDef):
            self.assertLessEqual(len(node.bases), 1, place)
            self.assertEqual(node.keywords, [], place)
            for part in node.body:
                self.assertIsInstance(part, (ast.FunctionDef, ast.Pass), place)

    def test_l6_statements(self):
        for place, node in nodes_of(ast.Assign):
            self.assertEqual(len(node.targets), 1, place)
            self.assertIsInstance(node.targets[0], (ast.Name, ast.Attribute, ast.Subscript), place)
        for place, node in nodes_of(ast.For, ast.While):
            self.assertEqual(node.orelse, [], place)
        for place, node in nodes_of(ast.Try):
            self.assertEqual(node.finalbody, [], place)
        for place, node in nodes_of(ast.ExceptHandler):
            self.assertIsNotNone(node.type, place)
        for place, node in nodes_of(ast.Expr):
            self.assertIsInstance(node.value, (ast.Call, ast.Constant), place)

    def test_l7_l27_values(self):
        for place, node in nodes_of(ast.Constant):
            self.assertIn(type(node.value), (int, str, bool, type(None)), place)
            if isinstance(node.value, str):
                self.assertNotIn("%", node.value, place)
        for place, node in nodes_of(ast.ListComp):
            self.assertEqual(len(node.generators), 1, place)
            self.assertLessEqual(len(node.generators[0].ifs), 1, place)
        for place, node in nodes_of(ast.FormattedValue):
            self.assertIsInstance(node.value, ast.Name, place)
            self.assertIsNone(node.format_spec, place)

    def test_l8_l12_l17_names(self):
        for name, tree in trees():
            known = set(bound_at_top(tree)) | set(bound_within(tree)) | OWN_NAMES
            known.update([node.name for node in ast.walk(tree) if isinstance(node, ast.ExceptHandler)])
            known.update([node.name for node in ast.walk(tree) if isinstance(node, ast.FunctionDef)])
            for node in ast.walk(tree):
                if isinstance(node, ast.Name):
                    self.assertIn(node.id, known, name)
                    self.assertFalse(node.id.startswith("_"), (name, node.id))
                    self.assertNotIn(node.id, BARRED_NAMES, name)
                if isinstance(node, (ast.FunctionDef, ast.ClassDef)):
                    plain = not node.name.startswith("_") or node.name in TWO_UNDERSCORES
                    self.assertTrue(plain and node.name not in BARRED_NAMES, (name, node.name))

    def test_l25_methods(self):
        own = [part.name for place, node in nodes_of(ast.ClassDef) for part in node.body
               if isinstance(part, ast.FunctionDef)]
        for place, node in nodes_of(ast.Call):
            if isinstance(node.func, ast.Attribute):
                self.assertIn(node.func.attr, METHODS | set(own), place)

    def test_l20_is(self):
        for place, node in nodes_of(ast.Compare):
            for operator, side in zip(node.ops, node.comparators):
                if isinstance(operator, (ast.Is, ast.IsNot)):
                    self.assertIsInstance(side, ast.Constant, place)
                    self.assertTrue(any(side.value is single for single in (None, True, False)), place)

    def test_l24_sets(self):
        allowed = []
        for place, node in nodes_of(ast.Call, ast.Compare):
            parts = node.args if isinstance(node, ast.Call) else [node.left] + node.comparators
            if isinstance(node, ast.Compare) or getattr(node.func, "id", "") in ("sorted", "len"):
                for part in parts:
                    allowed.extend([ast.dump(each) for each in ast.walk(part)])
        for place, node in nodes_of(ast.Call):
            if isinstance(node.func, ast.Name) and node.func.id in ("set", "frozenset"):
                self.assertIn(ast.dump(node), allowed, place)

    def test_l23_walked_at_once(self):
        walked = []
        for place, node in nodes_of(ast.For, ast.comprehension):
            walked.append(node.iter)
        for place, node in nodes_of(ast.Call):
            if isinstance(node.func, ast.Name) and (node.func.id in WALKERS or (
                    node.func.id in ("min", "max") and len(node.args) == 1)):
                walked.extend(node.args if node.func.id == "zip" else node.args[:1])
        places = [ast.dump(node, include_attributes=True) for node in walked]
        for place, node in nodes_of(ast.Call):
            if getattr(node.func, "id", getattr(node.func, "attr", "")) in WALKED_AT_ONCE:
                self.assertIn(ast.dump(node, include_attributes=True), places, place)


class Errors(unittest.TestCase):
    def test_l19_errors_are_made_on_the_spot(self):
        for place, node in nodes_of(ast.Raise):
            self.assertIsInstance(node.exc, ast.Call, place)
            self.assertIsInstance(node.exc.func, ast.Name, place)
        for place, handler in nodes_of(ast.ExceptHandler):
            for node in ast.walk(handler):
                if isinstance(node, ast.Raise) and node.cause is not None:
                    self.assertEqual(getattr(node.cause, "id", None), handler.name, place)

    def test_l19_errors_that_are_taken(self):
        own = [node.name for place, node in nodes_of(ast.ClassDef) if place.startswith("errors.py")]
        for place, node in nodes_of(ast.ExceptHandler):
            self.assertIsInstance(node.type, ast.Name, place)
            self.assertIn(node.type.id, own + ["KeyError", "ZeroDivisionError", "StopIteration"], place)


class Objects(unittest.TestCase):
    def test_l18_l26_methods_and_values(self):
        methods = [part.name for place, node in nodes_of(ast.ClassDef) for part in node.body
                   if isinstance(part, ast.FunctionDef)]
        stored = [node for place, node in nodes_of(ast.Attribute) if isinstance(node.ctx, ast.Store)]
        for node in stored:
            self.assertIsInstance(node.value, ast.Name)
            self.assertNotIn(node.attr, methods)
            self.assertFalse(any(hasattr(kind, node.attr) for kind in (str, int, list, dict, set, bytes)), node.attr)
        for name in methods:
            self.assertTrue(name in TWO_UNDERSCORES or not any(
                hasattr(kind, name) for kind in (str, int, list, dict, set, bytes)), name)


if __name__ == "__main__":
    unittest.main()
