"""The package's files hold to those rules of LANGUAGE.md that can be counted or looked up.

The rules are only partly told here: what this lets by may still be outside them.
"""

import ast
import builtins
import pathlib
import re
import unittest

PACKAGE = pathlib.Path(__file__).resolve().parent.parent / "shutways"

OWN_NAMES = set("""
    len range enumerate zip min max sum abs sorted reversed int str bool list tuple dict set frozenset
    isinstance ord repr any all divmod Exception ValueError TypeError KeyError IndexError LookupError
    ZeroDivisionError ArithmeticError OverflowError RuntimeError NotImplementedError AttributeError
    StopIteration object float bytes
    """.split())
OWN_METHODS = set("""
    append clear copy count endswith extend find get index insert isalnum isalpha isdigit islower isspace
    isupper items join keys ljust lower lstrip partition pop remove replace reverse rfind rjust rpartition
    rsplit rstrip setdefault split splitlines startswith strip update upper values zfill bit_length
    add discard title
    """.split())
KINDS = (str, int, list, dict, set, tuple, bytes)
FORBIDDEN_NODES = (
    ast.With, ast.Match, ast.Delete, ast.Global, ast.Nonlocal, ast.Assert, ast.Yield, ast.YieldFrom,
    ast.AsyncFunctionDef, ast.AsyncFor, ast.AsyncWith, ast.Await, ast.SetComp, ast.DictComp,
    ast.GeneratorExp, ast.NamedExpr, ast.Starred, ast.Div, ast.MatMult, ast.AnnAssign, ast.Import)
WORDS = (
    "type typing typing_extensions enum Enum IntEnum StrEnum Flag IntFlag Generic Protocol ABC ABCMeta "
    "namedtuple NamedTuple TypedDict TYPE_CHECKING abstractmethod").split()
NOT_NAMES = set("""
    register mro elements open input version_info with_traceback add_note attrgetter breakpoint builtins
    compile copyright credits delattr dir eval exec exit gc getattr globals hasattr help id importlib
    license locals methodcaller os quit setattr super type vars sys
    """.split())


def names_bound(node):
    """The names that this one node binds."""
    if isinstance(node, ast.Name) and not isinstance(node.ctx, ast.Load):
        return [node.id]
    if isinstance(node, (ast.FunctionDef, ast.ClassDef)):
        return [node.name]
    if isinstance(node, ast.arg):
        return [node.arg]
    if isinstance(node, ast.ExceptHandler) and node.name:
        return [node.name]
    return []


def names_of_top(tree):
    """The names bound at a file's top, each as often as it is bound there."""
    found = []
    for node in tree.body:
        if isinstance(node, ast.ImportFrom):
            found += [alias.asname or alias.name for alias in node.names]
        elif isinstance(node, ast.Assign):
            found += [part.id for part in ast.walk(node.targets[0]) if isinstance(part, ast.Name)]
        elif isinstance(node, (ast.FunctionDef, ast.ClassDef)):
            found.append(node.name)
    return found


def has_plain_parameters(node):
    args = node.args
    return not (args.vararg or args.kwarg or args.kwonlyargs or args.posonlyargs)


class LanguageTest(unittest.TestCase):

    def files(self):
        files = sorted(PACKAGE.glob("*.py"))
        self.assertGreater(len(files), 1)
        return [(file.name, file.read_text(encoding="utf-8")) for file in files]

    def nodes(self):
        found = []
        for name, text in self.files():
            found += [(name, node) for node in ast.walk(ast.parse(text))]
        return found

    def where(self, name, node):
        return f"{name}:{getattr(node, 'lineno', 0)}"

    def test_nothing_else_lies_in_the_package(self):
        for path in PACKAGE.iterdir():
            if path.name != "__pycache__":
                self.assertRegex(path.name, r"^[a-z0-9_]+\.py$")

    def test_signs_and_sizes(self):
        for name, text in self.files():
            self.assertRegex(text, r"\A[ -~\n]*\Z", name)
            lines = text.split("\n")
            self.assertLessEqual(len(lines), 400, name)
            self.assertLessEqual(max(len(line) for line in lines), 120, name)
        for name, node in self.nodes():
            if isinstance(node, ast.FunctionDef):
                self.assertLessEqual(node.end_lineno - node.lineno + 1, 40, self.where(name, node))

    def test_words_that_stand_nowhere(self):
        for name, text in self.files():
            for word in WORDS:
                self.assertIsNone(re.search(rf"\b{word}\b", text), f"{name}: {word}")
            for word in ("dataclass", "overload", "contextmanager"):
                self.assertNotIn(word, text, name)

    def test_imports(self):
        for name, node in self.nodes():
            if isinstance(node, ast.ImportFrom):
                self.assertEqual(node.level, 0, self.where(name, node))
                self.assertRegex(node.module, r"^shutways\.[a-z0-9_]+$", self.where(name, node))
                for alias in node.names:
                    self.assertNotEqual(alias.name, "*", self.where(name, node))

    def test_statements_and_expressions(self):
        for name, node in self.nodes():
            place = self.where(name, node)
            self.assertNotIsInstance(node, FORBIDDEN_NODES, place)
            if isinstance(node, ast.Assign):
                self.assertEqual(len(node.targets), 1, place)
            if isinstance(node, (ast.For, ast.While)):
                self.assertEqual(node.orelse, [], place)
            if isinstance(node, ast.Try):
                self.assertEqual(node.finalbody, [], place)
            if isinstance(node, ast.ListComp):
                self.assertEqual(len(node.generators), 1, place)
                self.assertLessEqual(len(node.generators[0].ifs), 1, place)
            if isinstance(node, ast.FormattedValue):
                self.assertIsInstance(node.value, ast.Name, place)
            if isinstance(node, ast.Constant):
                self.assertNotIsInstance(node.value, (float, complex, bytes), place)
            if isinstance(node, ast.FunctionDef):
                self.assertEqual(node.decorator_list, [], place)
                self.assertTrue(has_plain_parameters(node), place)

    def test_top_of_files(self):
        kinds = (ast.ImportFrom, ast.FunctionDef, ast.ClassDef, ast.Assign)
        for name, text in self.files():
            if name != "__main__.py":
                tree = ast.parse(text)
                self.assertIsNotNone(ast.get_docstring(tree), name)
                for node in tree.body[1:]:
                    self.assertIsInstance(node, kinds, self.where(name, node))

    def test_names(self):
        for name, node in self.nodes():
            place = self.where(name, node)
            for bound in names_bound(node):
                self.assertNotIn(bound, NOT_NAMES, place)
                if not re.fullmatch(r"__(init|eq|repr|str|len|all|version)__", bound):
                    self.assertRegex(bound, r"^[A-Za-z][A-Za-z0-9_]*$", place)
            if isinstance(node, ast.Name) and isinstance(node.ctx, ast.Load) and name != "__main__.py":
                self.assertNotIn(node.id, NOT_NAMES, place)
                if hasattr(builtins, node.id):
                    self.assertIn(node.id, OWN_NAMES, place)
            if isinstance(node, ast.Attribute) and any(hasattr(kind, node.attr) for kind in KINDS):
                self.assertIn(node.attr, OWN_METHODS | {"__init__"}, place)

    def test_no_local_is_called_like_a_name_of_pythons(self):
        for name, node in self.nodes():
            if isinstance(node, ast.ClassDef) or isinstance(node, ast.FunctionDef):
                continue
            for bound in names_bound(node):
                self.assertFalse(hasattr(builtins, bound), self.where(name, node))

    def test_no_local_is_called_like_a_class_or_an_import_of_its_file(self):
        for name, text in self.files():
            tree = ast.parse(text)
            taken = {node.name for node in tree.body if isinstance(node, ast.ClassDef)}
            for node in tree.body:
                if isinstance(node, ast.ImportFrom):
                    taken |= {alias.name for alias in node.names}
            for node in ast.walk(tree):
                if isinstance(node, (ast.Name, ast.arg)):
                    for bound in names_bound(node):
                        self.assertNotIn(bound, taken, self.where(name, node))

    def test_each_name_is_bound_once_at_a_files_top(self):
        for name, text in self.files():
            bound = names_of_top(ast.parse(text))
            self.assertEqual(len(bound), len(set(bound)), name)

    def test_names_are_drawn_from_the_very_file_that_defines_them(self):
        defined = {}
        for name, text in self.files():
            nodes = [node for node in ast.parse(text).body if not isinstance(node, ast.ImportFrom)]
            defined["shutways." + name[:-3]] = names_of_top(ast.Module(nodes, []))
        for name, node in self.nodes():
            if isinstance(node, ast.ImportFrom):
                for alias in node.names:
                    self.assertIn(alias.name, defined[node.module], self.where(name, node))

    def test_no_two_files_draw_from_one_another(self):
        drawn = {}
        for name, text in self.files():
            nodes = [node for node in ast.walk(ast.parse(text)) if isinstance(node, ast.ImportFrom)]
            drawn[name[:-3]] = {node.module.split(".")[1] for node in nodes}
        while drawn:
            free = [name for name in drawn if not drawn[name] & set(drawn)]
            self.assertNotEqual(free, [], drawn)
            for name in free:
                drawn.pop(name)

    def test_no_name_is_a_method_and_a_value(self):
        methods = set()
        values = set()
        for name, node in self.nodes():
            if isinstance(node, ast.ClassDef):
                inner = [part.name for part in node.body if isinstance(part, ast.FunctionDef)]
                self.assertEqual(len(inner), len(set(inner)), self.where(name, node))
                self.assertLessEqual(len(node.bases), 1, self.where(name, node))
                methods |= set(inner)
            if isinstance(node, ast.Attribute) and not isinstance(node.ctx, ast.Load):
                values.add(node.attr)
        self.assertEqual(methods & values, set())

    def test_is_stands_beside_none_true_and_false_alone(self):
        for name, node in self.nodes():
            if isinstance(node, ast.Compare):
                for operator, right in zip(node.ops, node.comparators):
                    if isinstance(operator, (ast.Is, ast.IsNot)):
                        self.assertIsInstance(right, ast.Constant, self.where(name, node))
                        self.assertIn(right.value, (None, True, False), self.where(name, node))

    def test_errors_that_are_not_taken(self):
        for name, node in self.nodes():
            if isinstance(node, ast.ExceptHandler):
                self.assertIsInstance(node.type, ast.Name, self.where(name, node))
                self.assertNotIn(node.type.id, ("Exception", "TypeError"), self.where(name, node))

    def test_what_is_walked_at_once_is_not_kept(self):
        for name, node in self.nodes():
            if isinstance(node, (ast.Assign, ast.Return)) and isinstance(node.value, ast.Call):
                called = node.value.func
                word = called.id if isinstance(called, ast.Name) else getattr(called, "attr", "")
                self.assertNotIn(
                    word, ("zip", "enumerate", "reversed", "range", "items", "keys", "values", "set", "frozenset"),
                    self.where(name, node))

    def test_texts(self):
        for name, node in self.nodes():
            if isinstance(node, ast.Constant) and isinstance(node.value, str):
                self.assertNotIn("%", node.value, self.where(name, node))


if __name__ == "__main__":
    unittest.main()
