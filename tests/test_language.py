"""Part of the rules L1 to L28 of the package's small part of Python; L13, L19 and L22 to L24 are not asked here."""

import ast
import builtins
import pathlib
import re
import unittest

PACKAGE = pathlib.Path(__file__).resolve().parent.parent / "stowhold"

STATEMENTS = (ast.Assign, ast.AugAssign, ast.If, ast.While, ast.For, ast.Return, ast.Break, ast.Continue, ast.Pass,
              ast.Raise, ast.Try, ast.Expr, ast.FunctionDef, ast.ClassDef, ast.ImportFrom)
EXPRESSIONS = (ast.BoolOp, ast.BinOp, ast.UnaryOp, ast.Lambda, ast.IfExp, ast.Dict, ast.ListComp, ast.Compare,
               ast.Call, ast.JoinedStr, ast.FormattedValue, ast.Constant, ast.Attribute, ast.Subscript, ast.Name,
               ast.List, ast.Tuple, ast.Slice)
BUILTINS = """len range enumerate zip min max sum abs sorted reversed int str bool list tuple dict set frozenset
    isinstance ord repr any all divmod Exception ValueError TypeError KeyError IndexError LookupError
    ZeroDivisionError ArithmeticError OverflowError RuntimeError NotImplementedError AttributeError
    StopIteration""".split()
METHODS = """append clear copy count endswith extend find get index insert isalnum isalpha isdigit islower isspace
    isupper items join keys ljust lower lstrip partition pop remove replace reverse rfind rjust rpartition rsplit
    rstrip setdefault split splitlines startswith strip update upper values zfill bit_length""".split()
DUNDERS = ["__init__", "__eq__", "__repr__", "__str__", "__len__"]
WORDS_OUT = r"""\b(type|typing|typing_extensions|enum|Enum|IntEnum|StrEnum|Flag|IntFlag|Generic|Protocol|ABC|ABCMeta|
    namedtuple|NamedTuple|TypedDict|TYPE_CHECKING|abstractmethod)\b|dataclass|overload|contextmanager"""
NAMES_OUT = """register mro elements open input version_info with_traceback add_note attrgetter breakpoint builtins
    compile copyright credits delattr dir eval exec exit gc getattr globals hasattr help id importlib license locals
    methodcaller os quit setattr super type vars sys chr print format format_map sort""".split()


def texts():
    return {path.stem: path.read_text("utf-8") for path in sorted(PACKAGE.rglob("*.py"))}


def trees():
    return {name: ast.parse(text) for name, text in texts().items()}


def nodes(*kinds):
    return [(name, node) for name, tree in trees().items() for node in ast.walk(tree) if isinstance(node, kinds)]


def top_names(tree):
    names = [node.name for node in tree.body if isinstance(node, (ast.FunctionDef, ast.ClassDef))]
    return names + [node.targets[0].id for node in tree.body if isinstance(node, ast.Assign)]


def drawn_from(tree):
    return [node.module.removeprefix("stowhold.") for node in tree.body if isinstance(node, ast.ImportFrom)]


class Texts(unittest.TestCase):
    def test_files(self):
        names = [path.name for path in PACKAGE.rglob("*") if path.name != "__pycache__" and path.suffix != ".pyc"]
        self.assertIn("__init__.py", names)
        for name in names:
            self.assertRegex(name, r"^[a-z][a-z0-9_]*\.py$|^__(init|main)__\.py$")

    def test_signs_and_size(self):
        for name, text in texts().items():
            with self.subTest(name):
                self.assertRegex(text, r"\A[ -~\n]*\Z")
                self.assertLessEqual(len(text.splitlines()), 400)
                self.assertLessEqual(max(len(row) for row in text.splitlines()), 120)

    def test_words_that_stand_nowhere(self):
        for name, text in texts().items():
            self.assertIsNone(re.search(WORDS_OUT, text, re.VERBOSE), name)

    def test_functions_are_short(self):
        for name, node in nodes(ast.FunctionDef):
            self.assertLessEqual(node.end_lineno - node.lineno + 1, 40, (name, node.name))


class Trees(unittest.TestCase):
    def test_statements_and_expressions(self):
        for name, node in nodes(ast.stmt, ast.expr):
            self.assertIsInstance(node, STATEMENTS + EXPRESSIONS, (name, node.lineno))

    def test_calls_alone_stand_by_themselves(self):
        for name, tree in trees().items():
            self.assertIsNotNone(ast.get_docstring(tree), name)
        docs = [tree.body[0] for tree in trees().values()]
        for name, node in nodes(ast.Expr):
            if not any(ast.dump(node, include_attributes=True) == ast.dump(doc, include_attributes=True) for doc in docs):
                self.assertIsInstance(node.value, ast.Call, (name, node.lineno))

    def test_assignments_have_one_target(self):
        for name, node in nodes(ast.Assign):
            self.assertEqual(len(node.targets), 1, (name, node.lineno))
            self.assertNotIsInstance(node.targets[0], (ast.Tuple, ast.List), (name, node.lineno))

    def test_loops_and_tries_have_no_more_than_is_told(self):
        for name, node in nodes(ast.For, ast.While):
            self.assertEqual(node.orelse, [], (name, node.lineno))
        for name, node in nodes(ast.Try):
            self.assertEqual(node.finalbody, [], (name, node.lineno))

    def test_comprehensions(self):
        for name, node in nodes(ast.ListComp):
            self.assertEqual(len(node.generators), 1, (name, node.lineno))
            self.assertLessEqual(len(node.generators[0].ifs), 1, (name, node.lineno))

    def test_functions_and_classes_are_plain(self):
        for name, node in nodes(ast.FunctionDef):
            told = node.args
            self.assertEqual((node.decorator_list, told.vararg, told.kwarg, told.kwonlyargs, told.posonlyargs),
                             ([], None, None, [], []), (name, node.name))
        for name, node in nodes(ast.ClassDef):
            self.assertEqual((node.decorator_list, node.keywords), ([], []), (name, node.name))
            self.assertLessEqual(len(node.bases), 1, (name, node.name))
            for inner in node.body:
                self.assertIsInstance(inner, (ast.FunctionDef, ast.Pass), (name, node.name))

    def test_is_stands_beside_plain_values(self):
        for name, node in nodes(ast.Compare):
            for sign, right in zip(node.ops, node.comparators):
                if isinstance(sign, (ast.Is, ast.IsNot)):
                    self.assertTrue(isinstance(right, ast.Constant) and right.value in (None, True, False),
                                    (name, node.lineno))

    def test_numbers_and_operators(self):
        for name, node in nodes(ast.Constant):
            self.assertIn(type(node.value), (int, str, bool, type(None)), (name, node.lineno))
            self.assertNotIn("%", str(node.value), (name, node.lineno))
        for name, node in nodes(ast.BinOp, ast.AugAssign):
            self.assertNotIsInstance(node.op, (ast.Div, ast.MatMult), (name, node.lineno))


class Names(unittest.TestCase):
    def test_names_of_pythons_own(self):
        for name, node in nodes(ast.Name):
            if isinstance(node.ctx, ast.Load) and node.id in dir(builtins):
                self.assertIn(node.id, BUILTINS, (name, node.lineno))

    def test_bound_names_are_plain_and_new(self):
        bound = [(name, node.id) for name, node in nodes(ast.Name) if isinstance(node.ctx, ast.Store)]
        bound += [(name, node.arg) for name, node in nodes(ast.arg)]
        for name, word in bound:
            self.assertRegex(word, r"^[A-Za-z][A-Za-z0-9_]*$", name)
            self.assertNotIn(word, dir(builtins), name)
            self.assertNotIn(word, NAMES_OUT, name)
        for name, node in nodes(ast.FunctionDef, ast.ClassDef):
            self.assertTrue(node.name in DUNDERS or not node.name.startswith("_"), (name, node.name))

    def test_locals_are_not_called_like_the_names_of_their_file(self):
        for name, tree in trees().items():
            imported = [alias.name for node in tree.body if isinstance(node, ast.ImportFrom) for alias in node.names]
            tops = top_names(tree) + imported
            self.assertEqual(len(tops), len(set(tops)), name)
            for def_ in [node for node in ast.walk(tree) if isinstance(node, ast.FunctionDef)]:
                for node in ast.walk(def_):
                    local = node.arg if isinstance(node, ast.arg) else getattr(node, "id", None)
                    if isinstance(node, ast.arg) or isinstance(getattr(node, "ctx", None), ast.Store):
                        self.assertNotIn(local, tops, (name, def_.name))

    def test_attributes(self):
        own_methods = [node.name for _, kind in nodes(ast.ClassDef) for node in kind.body if hasattr(node, "name")]
        stored = [node.attr for _, node in nodes(ast.Attribute) if isinstance(node.ctx, ast.Store)]
        self.assertEqual(set(own_methods) & set(stored), set())
        for name, node in nodes(ast.Attribute):
            self.assertIn(node.attr, own_methods + stored + METHODS + DUNDERS, (name, node.lineno))
            self.assertNotIn(node.attr, NAMES_OUT, (name, node.lineno))

    def test_imports(self):
        known = trees()
        for name, node in nodes(ast.ImportFrom):
            self.assertEqual(node.level, 0, (name, node.lineno))
            self.assertTrue(node.module.startswith("stowhold."), (name, node.lineno))
            for alias in node.names:
                self.assertIn(alias.name, top_names(known[node.module.removeprefix("stowhold.")]), (name, node.lineno))
                self.assertIsNone(alias.asname, (name, node.lineno))

    def test_no_two_files_draw_from_one_another(self):
        left = {name: drawn_from(tree) for name, tree in trees().items()}
        self.assertEqual(left["__init__"], [])
        while left:
            free = [name for name, drawn in left.items() if not any(other in left for other in drawn)]
            self.assertTrue(free, left)
            left = {name: drawn for name, drawn in left.items() if name not in free}


if __name__ == "__main__":
    unittest.main()
