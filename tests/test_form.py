"""The package keeps to its small part of Python, as far as a reading of its files can tell."""

import ast
import pathlib
import re
import unittest

PACKAGE = pathlib.Path(__file__).resolve().parent.parent / "treewells"

BUILT_IN = """len range enumerate zip min max sum abs sorted reversed int str bool list tuple dict set frozenset
isinstance ord repr any all divmod Exception ValueError TypeError KeyError IndexError LookupError ZeroDivisionError
ArithmeticError OverflowError RuntimeError NotImplementedError""".split()

METHODS = """append clear copy count endswith extend find get index insert isalnum isalpha isdigit islower isspace
isupper items join keys ljust lower lstrip partition pop remove replace reverse rfind rjust rpartition rsplit rstrip
setdefault split splitlines startswith strip update upper values zfill bit_length""".split()

NODES = """Module Expr Constant ImportFrom alias FunctionDef arguments arg ClassDef Assign AugAssign If While For
Return Break Continue Pass Raise Try ExceptHandler Call Name Load Store Attribute Subscript Slice List Tuple Dict
Set ListComp comprehension BinOp UnaryOp BoolOp Compare IfExp Lambda keyword JoinedStr FormattedValue Add Sub Mult
FloorDiv Mod Pow BitAnd BitOr BitXor LShift RShift Invert USub And Or Not Eq NotEq Lt LtE Gt GtE In NotIn Is
IsNot""".split()

KEYWORDS = {"sorted": ("key", "reverse"), "min": ("key", "default"), "max": ("key", "default"), "sum": ("start",),
            "enumerate": ("start",), "zip": ("strict",)}
WALKED = ("zip", "enumerate", "reversed", "range", "items", "keys", "values")
WALKERS = ("list", "tuple", "dict", "sorted", "sum", "any", "all", "enumerate", "zip", "min", "max", "join")

CHANGING = ("append", "clear", "extend", "insert", "pop", "remove", "reverse", "setdefault", "update")

WORDS = re.compile(r"\b(type|typing|typing_extensions|enum|Enum|IntEnum|StrEnum|Flag|IntFlag|Generic|Protocol|ABC|"
                   r"ABCMeta|namedtuple|NamedTuple|TypedDict|TYPE_CHECKING|abstractmethod)\b"
                   r"|dataclass|overload|contextmanager")


def files():
    return sorted(PACKAGE.rglob("*.py"))


def nodes(path, *sorts):
    return [node for node in ast.walk(ast.parse(path.read_text())) if isinstance(node, sorts)]


def bound_names(path):
    found = [node.id for node in nodes(path, ast.Name) if isinstance(node.ctx, ast.Store)]
    found += [node.name for node in nodes(path, ast.FunctionDef, ast.ClassDef)]
    found += [node.arg for node in nodes(path, ast.arg)]
    found += [node.name for node in nodes(path, ast.ExceptHandler) if node.name]
    return found


def called_name(node):
    """The name by which a function or method is called, of anything else None."""
    if not isinstance(node, ast.Call):
        return None
    return node.func.attr if isinstance(node.func, ast.Attribute) else node.func.id


def drawn_from(path):
    """The files from which this one imports, in whatever many steps."""
    found = []
    todo = [path]
    while todo:
        for node in nodes(todo.pop(), ast.ImportFrom):
            other = PACKAGE / f"{node.module.split('.')[1]}.py"
            if other not in found:
                found.append(other)
                todo.append(other)
    return found


def imported_names(path):
    return [alias.name for node in nodes(path, ast.ImportFrom) for alias in node.names]


def method_names(node):
    return [part.name for part in node.body if isinstance(part, ast.FunctionDef)]


class Form(unittest.TestCase):
    def test_only_plain_files_lie_in_the_package(self):
        self.assertTrue((PACKAGE / "__init__.py").is_file())
        for path in PACKAGE.rglob("*"):
            if "__pycache__" not in path.parts:
                self.assertRegex(path.name, r"^[a-z0-9_]+\.py$")

    def test_sizes_and_signs(self):
        for path in files():
            rows = path.read_text().split("\n")
            self.assertLessEqual(len(rows), 401, path)
            for row in rows:
                self.assertRegex(row, r"^[ -~]{0,120}$", path)
            for node in nodes(path, ast.FunctionDef):
                self.assertLessEqual(node.end_lineno - node.lineno + 1, 40, (path, node.name))

    def test_words_that_stand_nowhere(self):
        for path in files():
            self.assertIsNone(WORDS.search(path.read_text()), path)

    def test_only_the_listed_statements_and_expressions(self):
        for path in files():
            for node in nodes(path, ast.AST):
                self.assertIn(node.__class__.__name__, NODES, (path, getattr(node, "lineno", None)))
            for node in nodes(path, ast.Assign):
                self.assertEqual(len(node.targets), 1, (path, node.lineno))
            for node in nodes(path, ast.Constant):
                self.assertIsInstance(node.value, (int, str, None.__class__), (path, node.lineno))
            for node in nodes(path, ast.ListComp):
                self.assertTrue(len(node.generators) == 1 and len(node.generators[0].ifs) <= 1, (path, node.lineno))

    def test_names(self):
        for path in files():
            bound = bound_names(path)
            for name in bound:
                self.assertRegex(name, r"^([A-Za-z][A-Za-z0-9_]*|__init__)$", path)
                self.assertNotIn(name, dir(__builtins__) if not isinstance(__builtins__, dict) else __builtins__, path)
                self.assertNotIn(name, imported_names(path), path)
            known = bound + imported_names(path) + BUILT_IN
            for node in nodes(path, ast.Name):
                self.assertIn(node.id, known, (path, node.lineno))

    def test_imports_are_of_the_packages_own_names_from_where_they_are_defined(self):
        for path in files():
            for node in nodes(path, ast.ImportFrom):
                self.assertEqual(node.level, 0)
                head, tail = node.module.split(".")
                self.assertEqual(head, "treewells")
                defined = bound_names(PACKAGE / f"{tail}.py")
                for alias in node.names:
                    self.assertIn(alias.name, defined, (path, node.lineno))
                    self.assertIsNone(alias.asname)

    def test_no_two_files_draw_from_one_another(self):
        for path in files():
            self.assertNotIn(path, drawn_from(path))

    def test_is_stands_beside_none_and_truths_alone(self):
        for path in files():
            for node in nodes(path, ast.Compare):
                if any(isinstance(sign, (ast.Is, ast.IsNot)) for sign in node.ops):
                    self.assertIsInstance(node.comparators[0], ast.Constant, (path, node.lineno))
                    self.assertIn(node.comparators[0].value, (None, True, False), (path, node.lineno))

    def test_keywords_are_listed_ones(self):
        for path in files():
            for node in nodes(path, ast.Call):
                for keyword in node.keywords:
                    self.assertIn(keyword.arg, KEYWORDS.get(called_name(node), ()), (path, node.lineno))

    def test_what_is_walked_is_walked_at_once_and_sets_are_not_kept(self):
        for path in files():
            walked = [node.iter for node in nodes(path, ast.For, ast.comprehension)]
            handed = [node for node in nodes(path, ast.Call) if node.args]
            walked += [node.args[0] for node in handed if called_name(node) in WALKERS]
            weighed = [node.args[0] for node in handed if called_name(node) in ("sorted", "len")]
            for node in nodes(path, ast.Call):
                if called_name(node) in WALKED:
                    self.assertIn(ast.dump(node, include_attributes=True),
                                  [ast.dump(other, include_attributes=True) for other in walked], (path, node.lineno))
                if called_name(node) == "set":
                    self.assertIn(ast.dump(node, include_attributes=True),
                                  [ast.dump(other, include_attributes=True) for other in weighed], (path, node.lineno))

    def test_classes_hold_methods_alone_under_one_base(self):
        for path in files():
            for node in nodes(path, ast.ClassDef):
                self.assertLessEqual(len(node.bases), 1, (path, node.lineno))
                self.assertEqual((node.keywords, node.decorator_list), ([], []), (path, node.lineno))
                for part in node.body:
                    self.assertIsInstance(part, (ast.FunctionDef, ast.Pass), (path, part.lineno))
                names = method_names(node)
                self.assertEqual(len(names), len(set(names)), (path, node.lineno))

    def test_classes_are_called_raised_or_bases_alone(self):
        classes = [node.name for path in files() for node in nodes(path, ast.ClassDef)]
        for path in files():
            fit = [node.func for node in nodes(path, ast.Call)]
            fit += [base for node in nodes(path, ast.ClassDef) for base in node.bases]
            fit += [node.type for node in nodes(path, ast.ExceptHandler)]
            fit += [node.args[1] for node in nodes(path, ast.Call) if called_name(node) == "isinstance"]
            places = [(node.lineno, node.col_offset) for node in fit]
            for node in nodes(path, ast.Name):
                if node.id in classes:
                    self.assertIn((node.lineno, node.col_offset), places, path)

    def test_no_name_is_a_method_and_a_value(self):
        methods = [name for path in files() for node in nodes(path, ast.ClassDef) for name in method_names(node)]
        for path in files():
            for node in nodes(path, ast.Attribute):
                if isinstance(node.ctx, ast.Store):
                    self.assertNotIn(node.attr, methods, (path, node.lineno))

    def test_own_methods_have_names_of_their_own(self):
        taken = [name for sort in (str, int, list, dict, set, bytes) for name in dir(sort)]
        for path in files():
            for node in nodes(path, ast.ClassDef):
                for name in method_names(node):
                    self.assertIn(name, [name] if name not in taken else METHODS + ["__init__", "add", "discard"])

    def test_the_top_of_a_file_holds_plain_values_that_are_only_read(self):
        for path in files():
            named = []
            for node in ast.parse(path.read_text()).body:
                self.assertIsInstance(node, (ast.Expr, ast.ImportFrom, ast.FunctionDef, ast.ClassDef, ast.Assign), path)
                if isinstance(node, ast.Assign):
                    named.append(node.targets[0].id)
                    inner = [part for part in ast.walk(node.value) if isinstance(part, (ast.List, ast.Dict))]
                    self.assertTrue(inner in ([], [node.value]), (path, node.lineno))
            self.assertEqual(len(named), len(set(named)), path)
            stored = [node.value for node in nodes(path, ast.Subscript) if isinstance(node.ctx, ast.Store)]
            stored += [node.func.value for node in nodes(path, ast.Call) if isinstance(node.func, ast.Attribute)
                       and node.func.attr in CHANGING]
            for node in stored:
                self.assertFalse(isinstance(node, ast.Name) and node.id in named, (path, node.lineno))

    def test_texts_hold_no_percent_sign(self):
        for path in files():
            for node in nodes(path, ast.Constant):
                self.assertNotIn("%", str(node.value), (path, node.lineno))

    def test_values_of_objects_have_names_of_their_own(self):
        taken = [name for sort in (str, int, list, dict, set, bytes) for name in dir(sort)]
        for path in files():
            for node in nodes(path, ast.Attribute):
                if isinstance(node.ctx, ast.Store):
                    self.assertNotIn(node.attr, taken, (path, node.lineno))
                    self.assertEqual(node.value.id, "self", (path, node.lineno))

    def test_what_is_imported_is_used(self):
        for path in files():
            used = [node.id for node in nodes(path, ast.Name)]
            for name in imported_names(path):
                self.assertIn(name, used, path)

    def test_methods_are_listed_ones_or_own(self):
        own = [name for path in files() for name in bound_names(path)]
        for path in files():
            for node in nodes(path, ast.Call):
                if isinstance(node.func, ast.Attribute):
                    self.assertIn(node.func.attr, METHODS + own, (path, node.lineno))


if __name__ == "__main__":
    unittest.main()
