"""The package keeps to its part of Python: those rules that can be seen file by file, by the syntax tree."""

import ast
import builtins
import pathlib
import re
import unittest

PACKAGE = pathlib.Path(__file__).resolve().parent.parent / "benchends"

OWN_OF_PYTHON = set("""
    len range enumerate zip min max sum abs sorted reversed int str bool list tuple dict set frozenset isinstance
    ord repr any all divmod Exception ValueError TypeError KeyError IndexError LookupError ZeroDivisionError
    ArithmeticError OverflowError RuntimeError NotImplementedError AttributeError StopIteration
""".split())

METHODS = set("""
    append clear copy count endswith extend find get index insert isalnum isalpha isdigit islower isspace isupper
    items join keys ljust lower lstrip partition pop remove replace reverse rfind rjust rpartition rsplit rstrip
    setdefault split splitlines startswith strip update upper values zfill bit_length
""".split())

WORDS_OUT = re.compile(
    r"\b(type|typing|typing_extensions|enum|Enum|IntEnum|StrEnum|Flag|IntFlag|Generic|Protocol|ABC|ABCMeta|namedtuple"
    r"|NamedTuple|TypedDict|TYPE_CHECKING|abstractmethod)\b|dataclass|overload|contextmanager"
)

TWO_UNDERSCORES = ("__init__", "__eq__", "__repr__", "__str__", "__len__")

NODES_OUT = (
    ast.With, ast.Match, ast.Delete, ast.Global, ast.Nonlocal, ast.Assert, ast.Yield, ast.YieldFrom, ast.Await,
    ast.AsyncFor, ast.AsyncFunctionDef, ast.AsyncWith, ast.Import, ast.SetComp, ast.DictComp, ast.GeneratorExp,
    ast.NamedExpr, ast.Starred, ast.Div, ast.MatMult, ast.AnnAssign, ast.TryStar,
)


def sources():
    return sorted(PACKAGE.glob("*.py"))


def trees():
    return [(path.name, ast.parse(path.read_text(encoding="utf-8"))) for path in sources()]


def nodes():
    return [(name, node) for name, tree in trees() for node in ast.walk(tree)]


def bound_names(tree):
    names = []
    for node in ast.walk(tree):
        if isinstance(node, (ast.FunctionDef, ast.ClassDef)):
            names.append(node.name)
        elif isinstance(node, ast.arg):
            names.append(node.arg)
        elif isinstance(node, ast.Name) and isinstance(node.ctx, ast.Store):
            names.append(node.id)
        elif isinstance(node, ast.alias):
            names.append(node.asname or node.name)
        elif isinstance(node, ast.ExceptHandler) and node.name:
            names.append(node.name)
    return names


def top_names(tree):
    defined = [node.name for node in tree.body if isinstance(node, (ast.FunctionDef, ast.ClassDef))]
    return defined + [node.targets[0].id for node in tree.body if isinstance(node, ast.Assign)]


class FilesTest(unittest.TestCase):
    def test_only_plainly_named_sources_lie_in_the_package(self):
        found = [path.name for path in PACKAGE.iterdir() if path.name != "__pycache__"]
        self.assertIn("__init__.py", found)
        for name in found:
            self.assertRegex(name, r"\A(__init__|__main__|[a-z][a-z0-9_]*)\.py\Z")

    def test_signs_sizes_and_words(self):
        for path in sources():
            text = path.read_text(encoding="utf-8")
            lines = text.split("\n")
            with self.subTest(path.name):
                self.assertRegex(text, r"\A[ -~\n]*\Z")
                self.assertLessEqual(len(lines), 400)
                self.assertLessEqual(max(len(line) for line in lines), 120)
                self.assertIsNone(WORDS_OUT.search(text))

    def test_functions_have_at_most_40_lines(self):
        for name, node in nodes():
            if isinstance(node, ast.FunctionDef):
                self.assertLessEqual(node.end_lineno - node.lineno + 1, 40, (name, node.name))


class NamesTest(unittest.TestCase):
    def test_names_are_plain_and_none_of_pythons_own(self):
        own = set(dir(builtins))
        for name, tree in trees():
            for bound in bound_names(tree):
                with self.subTest(file=name, bound=bound):
                    self.assertNotIn(bound, own)
                    self.assertTrue(bound in TWO_UNDERSCORES or not bound.startswith("_"))

    def test_names_at_the_top_are_bound_once(self):
        for name, tree in trees():
            names = top_names(tree)
            self.assertEqual(sorted(names), sorted(set(names)), name)

    def test_names_that_are_read_are_bound_or_let_by(self):
        for name, tree in trees():
            known = OWN_OF_PYTHON | set(bound_names(tree))
            if name == "__main__.py":
                known = known | {"print", "sys", "__name__"}
            for node in ast.walk(tree):
                if isinstance(node, ast.Name) and isinstance(node.ctx, ast.Load):
                    self.assertIn(node.id, known, name)

    def test_no_parameter_or_local_is_called_like_a_class_or_an_import_of_its_file(self):
        for name, tree in trees():
            taken = [node.name for node in tree.body if isinstance(node, ast.ClassDef)]
            for node in tree.body:
                if isinstance(node, ast.ImportFrom):
                    taken += [alias.name for alias in node.names]
            for node in ast.walk(tree):
                if isinstance(node, ast.FunctionDef):
                    self.assertEqual(set(bound_names(node)) & set(taken), set(), (name, node.name))

    def test_methods_are_let_by_or_own(self):
        own = {node.name for name, node in nodes() if isinstance(node, ast.FunctionDef)}
        for name, node in nodes():
            if isinstance(node, ast.Call) and isinstance(node.func, ast.Attribute) and name != "__main__.py":
                self.assertIn(node.func.attr, METHODS | own, name)


class ImportsTest(unittest.TestCase):
    def test_imports_draw_from_the_very_file_that_defines_the_name(self):
        defined = {"benchends." + name[:-3]: top_names(tree) for name, tree in trees()}
        for name, tree in trees():
            for node in tree.body:
                if isinstance(node, ast.ImportFrom):
                    self.assertEqual(node.level, 0, name)
                    for alias in node.names:
                        self.assertIn(alias.name, defined.get(node.module, []), name)

    def test_imports_stand_at_the_top_alone(self):
        at_top = sum(isinstance(node, ast.ImportFrom) for name, tree in trees() for node in tree.body)
        self.assertEqual(at_top, sum(isinstance(node, ast.ImportFrom) for name, node in nodes()))

    def test_no_two_files_draw_from_one_another(self):
        draws = {
            "benchends." + name[:-3]: [node.module for node in tree.body if isinstance(node, ast.ImportFrom)]
            for name, tree in trees()
        }
        while draws:
            free = [name for name, drawn in draws.items() if not set(drawn) & set(draws)]
            self.assertTrue(free, draws)
            draws = {name: drawn for name, drawn in draws.items() if name not in free}


class FormsTest(unittest.TestCase):
    def test_no_form_that_is_out(self):
        for name, node in nodes():
            if name != "__main__.py" or not isinstance(node, ast.Import):
                self.assertNotIsInstance(node, NODES_OUT, (name, getattr(node, "lineno", None)))

    def test_values_are_plain(self):
        for name, node in nodes():
            if isinstance(node, ast.Constant):
                self.assertIsInstance(node.value, (int, str, type(None)), (name, node.lineno))

    def test_functions_and_classes_are_plain(self):
        for name, node in nodes():
            if isinstance(node, (ast.FunctionDef, ast.ClassDef)):
                self.assertEqual(node.decorator_list, [], (name, node.name))
            if isinstance(node, ast.ClassDef):
                self.assertLessEqual(len(node.bases), 1, (name, node.name))
            if isinstance(node, ast.arguments):
                self.assertEqual((node.vararg, node.kwarg, node.kwonlyargs, node.posonlyargs), (None, None, [], []))

    def test_classes_hold_methods_alone_and_no_value_is_called_like_one(self):
        methods = set()
        values = set()
        for name, node in nodes():
            if isinstance(node, ast.ClassDef):
                kinds = (ast.FunctionDef, ast.Pass)
                self.assertEqual([part for part in node.body if not isinstance(part, kinds)], [], (name, node.name))
                names = [part.name for part in node.body if isinstance(part, ast.FunctionDef)]
                self.assertEqual(len(set(names)), len(names), (name, node.name))
                methods.update(names)
            if isinstance(node, ast.Attribute) and isinstance(node.ctx, ast.Store):
                values.add(node.attr)
        self.assertEqual(methods & values, set())

    def test_statements_are_plain(self):
        for name, node in nodes():
            if isinstance(node, ast.Assign):
                self.assertEqual(len(node.targets), 1, (name, node.lineno))
            if isinstance(node, (ast.For, ast.While)):
                self.assertEqual(node.orelse, [], (name, node.lineno))
            if isinstance(node, ast.Try):
                self.assertEqual(node.finalbody, [], (name, node.lineno))
            if isinstance(node, ast.ListComp):
                self.assertEqual(len(node.generators), 1, (name, node.lineno))
                self.assertLessEqual(len(node.generators[0].ifs), 1, (name, node.lineno))

    def test_what_is_walked_at_once_is_not_kept(self):
        walked = ("range", "zip", "enumerate", "reversed")
        takers = ("list", "tuple", "dict", "sorted", "sum", "any", "all", "enumerate", "zip", "min", "max")
        on_the_spot = set()
        for name, node in nodes():
            if isinstance(node, (ast.For, ast.comprehension)):
                on_the_spot.add(ast.dump(node.iter))
            if isinstance(node, ast.Call) and isinstance(node.func, ast.Name) and node.func.id in takers and node.args:
                on_the_spot.add(ast.dump(node.args[0]))
        for name, node in nodes():
            if isinstance(node, ast.Call) and isinstance(node.func, ast.Name) and node.func.id in walked:
                self.assertIn(ast.dump(node), on_the_spot, (name, node.lineno))

    def test_texts_hold_no_sign_for_parts(self):
        for name, node in nodes():
            if isinstance(node, ast.Constant) and isinstance(node.value, str):
                self.assertNotIn("%", node.value, (name, node.lineno))

    def test_is_stands_beside_none_true_and_false_alone(self):
        for name, node in nodes():
            if isinstance(node, ast.Compare) and any(isinstance(op, (ast.Is, ast.IsNot)) for op in node.ops):
                sides = [node.left] + node.comparators
                plain = [side for side in sides if isinstance(side, ast.Constant) and side.value in (None, True, False)]
                self.assertTrue(plain, (name, node.lineno))


if __name__ == "__main__":
    unittest.main()
