"""The form of the package's files: the small part of the language that the program keeps to."""

import ast
import builtins
import pathlib
import re
import unittest

PACKAGE = pathlib.Path(__file__).resolve().parent.parent / "hedgerow"

NODES = """
Module Import ImportFrom alias FunctionDef arguments arg ClassDef Lambda
Assign AugAssign If While For Return Break Continue Pass Raise Try ExceptHandler Expr
BinOp Add Sub Mult FloorDiv Mod Pow BitAnd BitOr BitXor LShift RShift
UnaryOp USub UAdd Invert Not BoolOp And Or Compare Eq NotEq Lt LtE Gt GtE Is IsNot In NotIn
IfExp Call keyword Attribute Subscript Slice Name Load Store Constant List Tuple Dict Set
ListComp comprehension JoinedStr FormattedValue
""".split()

OWN_NAMES = """
len range enumerate zip min max sum abs sorted reversed int str bool list tuple dict set frozenset isinstance
ord repr any all divmod Exception ValueError TypeError KeyError IndexError LookupError ZeroDivisionError
ArithmeticError OverflowError RuntimeError NotImplementedError AttributeError StopIteration
""".split()

METHODS = """
append clear copy count endswith extend find get index insert isalnum isalpha isdigit islower isspace isupper
items join keys ljust lower lstrip partition pop remove replace reverse rfind rjust rpartition rsplit rstrip
setdefault split splitlines startswith strip update upper values zfill bit_length
""".split()

WORDS = """
type typing typing_extensions enum Enum IntEnum StrEnum Flag IntFlag Generic Protocol ABC ABCMeta namedtuple
NamedTuple TypedDict TYPE_CHECKING abstractmethod
""".split()

UNUSED_NAMES = """
register mro elements open input version_info with_traceback add_note attrgetter breakpoint builtins compile copyright
credits delattr dir eval exec exit gc getattr globals hasattr help id importlib license locals methodcaller os quit
setattr super sys vars chr
""".split()

WALKED = "zip enumerate reversed range items keys values".split()
WALKERS = "list tuple dict sorted sum any all enumerate zip min max join".split()
CHANGERS = "append clear extend insert pop remove reverse setdefault update".split()

FOREIGN_METHODS = {name for kind in (str, int, list, dict, set, bytes, tuple) for name in dir(kind)} - set(METHODS)


def package_files():
    return sorted(PACKAGE.glob("*.py"))


def tree_of(path):
    return ast.parse(path.read_text(encoding="utf-8"))


def imported(tree):
    return [alias.name for node in tree.body if isinstance(node, ast.ImportFrom) for alias in node.names]


def defined(tree):
    names = [node.name for node in tree.body if isinstance(node, (ast.FunctionDef, ast.ClassDef))]
    return names + [node.targets[0].id for node in tree.body if isinstance(node, ast.Assign)]


def called(call):
    return getattr(call.func, "id", None) or getattr(call.func, "attr", None)


class FilesTest(unittest.TestCase):
    def test_nothing_but_plain_files_lies_in_the_package(self):
        for path in PACKAGE.iterdir():
            if path.name != "__pycache__":
                self.assertRegex(path.name, r"\A([a-z][a-z0-9_]*|__init__|__main__)\.py\Z")
        self.assertTrue((PACKAGE / "__init__.py").exists())

    def test_signs_and_size(self):
        for path in package_files():
            text = path.read_text(encoding="utf-8")
            self.assertRegex(text, r"\A[\n -~]*\Z", path.name)
            rows = text.split("\n")
            self.assertLessEqual(len(rows), 400, path.name)
            self.assertLessEqual(max(len(line) for line in rows), 120, path.name)

    def test_words_that_stand_nowhere(self):
        for path in package_files():
            text = path.read_text(encoding="utf-8")
            self.assertEqual([word for word in re.findall(r"\w+", text) if word in WORDS], [], path.name)
            for word in ("dataclass", "overload", "contextmanager"):
                self.assertNotIn(word, text, path.name)


class CodeTest(unittest.TestCase):
    def each_node(self):
        for path in package_files():
            for node in ast.walk(tree_of(path)):
                yield f"{path.name}:{getattr(node, 'lineno', 0)}", node

    def test_kinds_of_steps(self):
        for place, node in self.each_node():
            self.assertIn(type(node).__name__, NODES, place)
            if isinstance(node, ast.Constant):
                self.assertIn(type(node.value), (int, str, bool, type(None)), place)
            if isinstance(node, (ast.For, ast.While)):
                self.assertEqual(node.orelse, [], place)
            if isinstance(node, ast.Assign):
                self.assertEqual(len(node.targets), 1, place)
                self.assertNotIsInstance(node.targets[0], ast.Tuple, place)
            if isinstance(node, ast.ListComp):
                self.assertEqual(len(node.generators), 1, place)
                self.assertLessEqual(len(node.generators[0].ifs), 1, place)
            if isinstance(node, ast.FormattedValue):
                self.assertIsInstance(node.value, ast.Name, place)

    def test_functions_are_short_and_plain(self):
        for place, node in self.each_node():
            if isinstance(node, ast.FunctionDef):
                self.assertLessEqual(node.end_lineno - node.lineno + 1, 40, place)
                self.assertEqual(node.decorator_list, [], place)
                self.assertEqual((node.args.vararg, node.args.kwarg, node.args.kwonlyargs), (None, None, []), place)

    def test_classes_hold_methods_alone(self):
        for place, node in self.each_node():
            if isinstance(node, ast.ClassDef):
                self.assertLessEqual(len(node.bases), 1, place)
                for part in node.body:
                    self.assertIsInstance(part, (ast.FunctionDef, ast.Pass), place)

    def test_bare_rows_are_calls_but_for_the_words_at_the_top(self):
        for path in package_files():
            tree = tree_of(path)
            self.assertIsNotNone(ast.get_docstring(tree), path.name)
            for node in ast.walk(tree):
                if isinstance(node, ast.Expr) and node is not tree.body[0]:
                    self.assertIsInstance(node.value, ast.Call, f"{path.name}:{node.lineno}")

    def test_imports_are_the_packages_own(self):
        for place, node in self.each_node():
            self.assertNotIsInstance(node, ast.Import, place)
            if isinstance(node, ast.ImportFrom):
                self.assertEqual(node.level, 0, place)
                self.assertTrue(node.module.startswith("hedgerow."), place)
                self.assertNotIn("*", [alias.name for alias in node.names], place)

    def test_no_two_files_draw_from_one_another(self):
        drawn = {}
        for path in package_files():
            rows = [node for node in tree_of(path).body if isinstance(node, ast.ImportFrom)]
            drawn["hedgerow." + path.stem] = {node.module for node in rows}
        while drawn:
            free = [name for name in drawn if not drawn[name] & set(drawn)]
            self.assertTrue(free, drawn)
            drawn = {name: drawn[name] for name in drawn if name not in free}

    def test_names_are_drawn_from_the_file_that_defines_them(self):
        for place, node in self.each_node():
            if isinstance(node, ast.ImportFrom):
                tree = tree_of(PACKAGE / (node.module.split(".")[1] + ".py"))
                self.assertLessEqual({alias.name for alias in node.names}, set(defined(tree)), place)

    def test_no_local_is_called_like_a_name_of_the_top(self):
        for path in package_files():
            tree = tree_of(path)
            known = set(defined(tree)) | set(imported(tree))
            for function in [node for node in tree.body if isinstance(node, ast.FunctionDef)]:
                for node in ast.walk(function):
                    place = f"{path.name}:{getattr(node, 'lineno', 0)}"
                    if isinstance(node, ast.arg):
                        self.assertNotIn(node.arg, known, place)
                    if isinstance(node, ast.Name) and isinstance(node.ctx, ast.Store):
                        self.assertNotIn(node.id, known, place)

    def test_what_is_walked_at_once_is_not_kept(self):
        for path in package_files():
            tree = tree_of(path)
            walked = [node.iter for node in ast.walk(tree) if isinstance(node, (ast.For, ast.comprehension))]
            calls = [node for node in ast.walk(tree) if isinstance(node, ast.Call)]
            walked += [part for call in calls if called(call) in WALKERS for part in call.args]
            for call in calls:
                if called(call) in WALKED:
                    self.assertIn(call, walked, f"{path.name}:{call.lineno}")

    def test_what_a_loop_walks_is_not_changed_in_it(self):
        for place, loop in self.each_node():
            if isinstance(loop, ast.For):
                names = {node.id for node in ast.walk(loop.iter) if isinstance(node, ast.Name)}
                for node in ast.walk(loop):
                    if isinstance(node, ast.Call) and called(node) in CHANGERS:
                        self.assertNotIn(ast.unparse(node.func.value), names, place)
                    if isinstance(node, ast.Subscript) and isinstance(node.ctx, ast.Store):
                        self.assertNotIn(ast.unparse(node.value), names, place)

    def test_is_stands_beside_none_true_and_false(self):
        for place, node in self.each_node():
            if isinstance(node, ast.Compare) and isinstance(node.ops[0], (ast.Is, ast.IsNot)):
                self.assertIn(ast.unparse(node.comparators[0]), ("None", "True", "False"), place)

    def test_numbers_and_texts(self):
        for place, node in self.each_node():
            if isinstance(node, ast.BinOp) and isinstance(node.op, ast.Pow):
                self.assertIsInstance(node.right, ast.Constant, place)
            if isinstance(node, ast.Constant) and isinstance(node.value, str):
                self.assertNotIn(chr(37), node.value, place)

    def test_names_that_are_not_used(self):
        for place, node in self.each_node():
            for field in ("id", "attr", "arg", "name"):
                self.assertNotIn(getattr(node, field, None), UNUSED_NAMES, place)

    def test_pythons_own_names(self):
        for place, node in self.each_node():
            if isinstance(node, ast.Name) and isinstance(node.ctx, ast.Load) and hasattr(builtins, node.id):
                self.assertIn(node.id, OWN_NAMES, place)
            bound = None
            if isinstance(node, ast.Name) and isinstance(node.ctx, ast.Store):
                bound = node.id
            if isinstance(node, ast.arg):
                bound = node.arg
            if isinstance(node, (ast.FunctionDef, ast.ClassDef)):
                bound = node.name
            if bound is not None and bound != "__init__":
                self.assertFalse(hasattr(builtins, bound), place)
                self.assertFalse(bound.startswith("_"), place)

    def test_methods(self):
        for place, node in self.each_node():
            if isinstance(node, ast.Attribute) and node.attr != "__init__":
                self.assertNotIn(node.attr, FOREIGN_METHODS, place)
                self.assertFalse(node.attr.startswith("_"), place)

    def test_no_python_error_is_taken_wholesale(self):
        for place, node in self.each_node():
            if isinstance(node, ast.ExceptHandler):
                self.assertIsNotNone(node.type, place)
                self.assertNotIn(ast.unparse(node.type), ("Exception", "TypeError"), place)


if __name__ == "__main__":
    unittest.main()
