"""The forms of LANGUAGE.md that can be read off the package's files."""

import ast
import builtins
import pathlib
import unittest

FOLDER = pathlib.Path(__file__).resolve().parent.parent / "primepapers"

FORMS = (
    ast.Module, ast.Import, ast.ImportFrom, ast.alias, ast.FunctionDef, ast.arguments, ast.arg, ast.ClassDef,
    ast.Lambda, ast.Assign, ast.AugAssign, ast.AnnAssign, ast.If, ast.While, ast.For, ast.Return, ast.Break,
    ast.Continue, ast.Pass, ast.Raise, ast.Try, ast.ExceptHandler, ast.Expr, ast.Assert, ast.Delete, ast.Name,
    ast.Constant, ast.List, ast.Tuple, ast.Dict, ast.Set, ast.BinOp, ast.UnaryOp, ast.BoolOp, ast.Compare,
    ast.IfExp, ast.Call, ast.keyword, ast.Attribute, ast.Subscript, ast.Slice, ast.ListComp, ast.DictComp,
    ast.SetComp, ast.comprehension, ast.JoinedStr, ast.FormattedValue, ast.Starred, ast.operator, ast.unaryop,
    ast.boolop, ast.cmpop, ast.expr_context,
)
PYTHONS_OWN = set(
    "len range enumerate zip min max sum abs sorted reversed int str bool bytes list tuple dict set frozenset "
    "isinstance ord repr any all divmod Exception ValueError TypeError KeyError IndexError LookupError "
    "ZeroDivisionError ArithmeticError OverflowError RuntimeError NotImplementedError AttributeError "
    "StopIteration".split()
)
TWO_UNDERSCORES = {"__init__", "__eq__", "__repr__", "__str__", "__len__"}
NOT_USED = set(
    "register mro elements open input version_info with_traceback add_note attrgetter breakpoint builtins compile "
    "copyright credits delattr dir eval exec exit gc getattr globals hasattr help id importlib license locals "
    "methodcaller os quit setattr super type vars sys chr format format_map args".split()
)
PYTHONS_METHODS = set(
    "append clear copy count endswith extend find get index insert isalnum isalpha isdigit islower isspace isupper "
    "items join keys ljust lower lstrip partition pop remove replace reverse rfind rjust rpartition rsplit rstrip "
    "setdefault split splitlines startswith strip update upper values zfill bit_length sort __init__".split()
)
WORDS = (
    r"\b(type|typing|typing_extensions|enum|Enum|IntEnum|StrEnum|Flag|IntFlag|Generic|Protocol|ABC|ABCMeta|namedtuple"
    r"|NamedTuple|TypedDict|TYPE_CHECKING|abstractmethod)\b|dataclass|overload|contextmanager"
)


def files():
    return sorted(FOLDER.glob("*.py"))


def nodes(file):
    return list(ast.walk(ast.parse(file.read_text(encoding="ascii"))))


def names_given(node):
    """The names that a row gives, a def's, a class's and a parameter's among them."""
    if isinstance(node, (ast.FunctionDef, ast.ClassDef)):
        return [node.name]
    if isinstance(node, ast.arg):
        return [node.arg]
    if isinstance(node, ast.Name) and isinstance(node.ctx, ast.Store):
        return [node.id]
    return []


def names_at_the_top(row):
    """The names that a row of a file's top binds, but for those that it draws in."""
    if isinstance(row, ast.Assign):
        return [target.id for target in row.targets]
    return names_given(row)


class Language(unittest.TestCase):
    def test_nothing_but_plain_files_lies_in_the_package(self):
        self.assertIn(FOLDER / "__init__.py", files())
        for file in FOLDER.iterdir():
            if file.name != "__pycache__":
                self.assertRegex(file.name, r"^(__init__|[a-z][a-z0-9_]*)\.py$")

    def test_signs_and_sizes(self):
        for file in files():
            text = file.read_text(encoding="ascii")
            self.assertRegex(text, r"\A[ -~\n]*\Z", file.name)
            self.assertNotRegex(text, WORDS, file.name)
            self.assertLessEqual(len(text.splitlines()), 400, file.name)
            self.assertLessEqual(max(map(len, text.splitlines())), 120, file.name)

    def test_forms(self):
        for file in files():
            for node in nodes(file):
                where = (file.name, getattr(node, "lineno", 0))
                self.assertIsInstance(node, FORMS, where)
                self.assertNotIsInstance(node, (ast.Div, ast.MatMult), where)
                if isinstance(node, (ast.FunctionDef, ast.ClassDef)):
                    self.assertEqual(node.decorator_list, [], where)
                if isinstance(node, ast.FunctionDef):
                    self.assertLessEqual(node.end_lineno - node.lineno + 1, 40, where)
                if isinstance(node, ast.Constant):
                    self.assertIn(type(node.value), (int, str, bytes, bool, type(None)), where)
                    self.assertNotIn("%", node.value if isinstance(node.value, str) else "", where)
                if isinstance(node, ast.BinOp) and isinstance(node.op, ast.Pow):
                    self.assertIsInstance(node.right, ast.Constant, where)
                    self.assertTrue(0 <= node.right.value <= 64, where)

    def test_names(self):
        for file in files():
            for node in nodes(file):
                where = (file.name, getattr(node, "lineno", 0))
                if isinstance(node, ast.Name) and hasattr(builtins, node.id):
                    self.assertIn(node.id, PYTHONS_OWN, where)
                for name in names_given(node):
                    if name not in TWO_UNDERSCORES:
                        self.assertRegex(name, r"^[A-Za-z][A-Za-z0-9_]*$", where)
                        self.assertFalse(hasattr(builtins, name), where)

    def test_names_that_are_not_used(self):
        for file in files():
            for node in nodes(file):
                names = [getattr(node, key, None) for key in ("id", "attr", "arg", "name")]
                self.assertFalse(NOT_USED & {name for name in names if isinstance(name, str)}, (file.name, names))

    def test_methods_and_values(self):
        methods, values, asked = set(), set(), set()
        for file in files():
            for node in nodes(file):
                if isinstance(node, ast.ClassDef):
                    rows = [row for row in node.body if isinstance(row, ast.FunctionDef)]
                    methods.update(row.name for row in rows if row.name != "__init__")
                    self.assertEqual(len({row.name for row in rows}), len(rows), node.name)
                if isinstance(node, ast.Attribute):
                    (values if isinstance(node.ctx, ast.Store) else asked).add(node.attr)
        self.assertFalse(methods & values)
        self.assertFalse(asked - methods - values - PYTHONS_METHODS)
        for own in (int, str, list, dict, set, bytes, tuple):
            self.assertFalse((methods | values) & set(vars(own)) - {"__init__"})

    def test_imports(self):
        for file in files():
            for node in nodes(file):
                where = (file.name, getattr(node, "lineno", 0))
                self.assertNotIsInstance(node, ast.Import, where)
                if isinstance(node, ast.ImportFrom):
                    self.assertEqual(node.level, 0, where)
                    self.assertTrue(node.module.startswith("primepapers."), where)
                    self.assertNotIn("*", [alias.name for alias in node.names], where)

    def test_names_are_drawn_from_the_file_that_defines_them(self):
        for file in files():
            for node in nodes(file):
                if isinstance(node, ast.ImportFrom):
                    drawn = FOLDER / f"{node.module.split('.')[1]}.py"
                    own = [name for row in ast.parse(drawn.read_text()).body for name in names_at_the_top(row)]
                    for alias in node.names:
                        self.assertEqual(own.count(alias.name), 1, (file.name, alias.name))

    def test_no_two_files_draw_from_one_another(self):
        drawn = {}
        for file in files():
            rows = [node for node in nodes(file) if isinstance(node, ast.ImportFrom)]
            drawn[file.stem] = {node.module.split(".")[1] for node in rows}
        while drawn:
            free = [stem for stem in drawn if not drawn[stem] & set(drawn)]
            self.assertTrue(free, drawn)
            for stem in free:
                del drawn[stem]

    def test_no_local_is_called_like_an_import_or_a_class(self):
        for file in files():
            taken = set()
            for node in nodes(file):
                if isinstance(node, ast.ImportFrom):
                    taken.update(alias.name for alias in node.names)
                if isinstance(node, ast.ClassDef):
                    taken.add(node.name)
            for node in nodes(file):
                if not isinstance(node, ast.ClassDef):
                    for name in names_given(node):
                        self.assertNotIn(name, taken, (file.name, node.lineno))


if __name__ == "__main__":
    unittest.main()
