"""The form of the package's code: what of ../shared/LANGUAGE.md can be seen from the written rows alone."""

import ast
import builtins
import pathlib
import re
import unittest

PACKAGE = pathlib.Path(__file__).resolve().parent.parent / "pastways"

BUILTINS = set("""
    len range enumerate zip min max sum abs sorted reversed int str bool list tuple dict set frozenset isinstance
    ord repr any all divmod Exception ValueError KeyError IndexError LookupError ZeroDivisionError ArithmeticError
    OverflowError RuntimeError NotImplementedError StopIteration""".split())
METHODS = set("""
    append clear copy count endswith extend find get index insert isalnum isalpha isdigit islower isspace isupper
    items join keys ljust lower lstrip partition pop remove replace reverse rfind rjust rpartition rsplit rstrip
    setdefault split splitlines startswith strip update upper values zfill bit_length""".split())
PYTHONS_METHODS = {name for kind in (str, int, list, tuple, dict, set, bytes) for name in dir(kind)}
OWN_METHODS = METHODS | {"add", "discard"}
WORDS = re.compile(r"\b(type|typing|typing_extensions|enum|Enum|IntEnum|StrEnum|Flag|IntFlag|Generic|Protocol|ABC"
                   r"|ABCMeta|namedtuple|NamedTuple|TypedDict|TYPE_CHECKING|abstractmethod)\b"
                   r"|dataclass|overload|contextmanager")
OWN_VALUES = set("count index title find get join lower upper split strip copy add".split())
NO_VALUES = set("items keys values pop update append clear extend insert remove reverse setdefault sort args encode"
                " format".split())
NOWHERE = set("register mro elements open input version_info with_traceback add_note format format_map".split())
WALKED = ("zip", "enumerate", "reversed", "range", "items", "keys", "values")
WALKERS = ("list", "tuple", "dict", "sorted", "sum", "any", "all", "enumerate", "zip", "min", "max")
NODES = (
    ast.Module, ast.ImportFrom, ast.alias, ast.FunctionDef, ast.arguments, ast.arg, ast.Lambda, ast.ClassDef,
    ast.Assign, ast.AugAssign, ast.If, ast.While, ast.For, ast.Return, ast.Break, ast.Continue, ast.Pass, ast.Raise,
    ast.Try, ast.ExceptHandler, ast.Expr, ast.Call, ast.keyword, ast.Constant, ast.Name, ast.Attribute,
    ast.Subscript, ast.Slice, ast.List, ast.Tuple, ast.Dict, ast.BinOp, ast.UnaryOp, ast.BoolOp, ast.Compare,
    ast.IfExp, ast.ListComp, ast.comprehension, ast.JoinedStr, ast.FormattedValue,
    ast.expr_context, ast.operator, ast.unaryop, ast.boolop, ast.cmpop)
TOP_NODES = (ast.Expr, ast.ImportFrom, ast.FunctionDef, ast.ClassDef, ast.Assign)


def files():
    return sorted(PACKAGE.glob("*.py"))


def trees():
    return [(file.name, ast.parse(file.read_text("utf-8"))) for file in files()]


def nodes(*kinds):
    return [(name, node) for name, tree in trees() for node in ast.walk(tree) if isinstance(node, kinds)]


def methods(node):
    return [row.name for row in node.body if isinstance(row, ast.FunctionDef)]


def parents(tree):
    return {below: node for node in ast.walk(tree) for below in ast.iter_child_nodes(node)}


def called(node):
    """The name that a node calls; an empty text, if it calls none."""
    return node.func.id if isinstance(node, ast.Call) and isinstance(node.func, ast.Name) else ""


class LanguageTest(unittest.TestCase):
    def fine(self, rule, name, node, is_fine):
        self.assertTrue(is_fine, f"{rule}: {name}, row {getattr(node, 'lineno', 0)}")

    def test_nothing_but_plain_files_lies_in_the_package(self):
        for path in PACKAGE.iterdir():
            if path.name != "__pycache__":
                self.assertRegex(path.name, r"\A([a-z][a-z0-9_]*|__init__|__main__)\.py\Z", "L1, L14")

    def test_sizes_and_signs(self):
        for file in files():
            rows = file.read_text("utf-8").split("\n")
            self.assertLessEqual(len(rows), 401, f"L10: {file.name}")
            for number, row in enumerate(rows, start=1):
                told = f"{file.name}, row {number}"
                self.assertLessEqual(len(row), 120, f"L10: {told}")
                self.assertRegex(row, r"\A[ -~]*\Z", f"L14: {told}")
                self.assertNotRegex(row, WORDS, f"L17: {told}")
        for name, node in nodes(ast.FunctionDef):
            self.fine("L10", name, node, node.end_lineno - node.lineno < 40)

    def test_only_told_statements_and_expressions(self):
        for name, node in nodes(ast.AST):
            self.fine("L6, L7", name, node, isinstance(node, NODES) and not isinstance(node, (ast.Div, ast.MatMult)))
        for name, tree in trees():
            for node in tree.body:
                self.fine("L3", name, node, isinstance(node, TOP_NODES))
        for name, node in nodes(ast.For, ast.While):
            self.fine("L6", name, node, not node.orelse)
        for name, node in nodes(ast.Try):
            self.fine("L6", name, node, not node.finalbody and all(row.type for row in node.handlers))
        for name, node in nodes(ast.Assign):
            self.fine("L6", name, node, len(node.targets) == 1 and not isinstance(node.targets[0], (ast.Tuple, ast.List)))
        for name, node in nodes(ast.ListComp):
            self.fine("L7", name, node, len(node.generators) == 1 and len(node.generators[0].ifs) <= 1)
        for name, node in nodes(ast.Constant):
            plain = node.value is None or isinstance(node.value, (int, str))
            self.fine("L7, L27", name, node, plain and not (isinstance(node.value, str) and "%" in node.value))

    def test_functions_and_classes_are_plain(self):
        for name, node in nodes(ast.FunctionDef):
            told = node.args
            self.fine("L4", name, node, not (told.vararg or told.kwarg or told.kwonlyargs or told.posonlyargs))
            self.fine("L4, L21", name, node, not node.decorator_list and node.returns is None)
        for name, node in nodes(ast.ClassDef):
            self.fine("L5", name, node, not node.decorator_list and not node.keywords and len(node.bases) <= 1)
            for row in node.body[1:]:
                self.fine("L5", name, row, isinstance(row, ast.FunctionDef))

    def test_names(self):
        for name, tree in trees():
            bound = {node.id for node in ast.walk(tree) if isinstance(node, ast.Name) and isinstance(node.ctx, ast.Store)}
            bound |= {node.arg for node in ast.walk(tree) if isinstance(node, ast.arg)}
            tops = [node.name for node in tree.body if isinstance(node, (ast.FunctionDef, ast.ClassDef))]
            drawn = [row.name for node in tree.body if isinstance(node, ast.ImportFrom) for row in node.names]
            tops += [node.targets[0].id for node in tree.body if isinstance(node, ast.Assign)]
            self.assertEqual(len(tops + drawn), len(set(tops + drawn)), f"L15: {name}")
            for word in bound | set(tops):
                self.assertRegex(word, r"\A[A-Za-z][A-Za-z0-9_]*\Z", f"L12: {name}")
                self.assertFalse(hasattr(builtins, word), f"L8, L15: {name}, {word}")
                self.assertNotIn(word, NOWHERE, f"L17: {name}")
            self.assertEqual(bound & set(drawn), set(), f"L15: {name}")
            classes = {node.name for node in ast.walk(tree) if isinstance(node, ast.ClassDef)}
            self.assertEqual(bound & classes, set(), f"L15: {name}")
            self.assertLessEqual(classes, set(tops), f"L15: {name}")
            for node in ast.walk(tree):
                if isinstance(node, ast.Name) and node.id not in bound | set(tops) | set(drawn):
                    self.fine("L8", name, node, node.id in BUILTINS)

    def test_methods_of_pythons_own_values(self):
        own = {row.name for name, node in nodes(ast.ClassDef) for row in node.body if isinstance(row, ast.FunctionDef)}
        for word in own:
            is_free = word in ("__init__", "__eq__", "__repr__", "__str__", "__len__") or word in OWN_METHODS
            self.assertTrue(is_free or word not in PYTHONS_METHODS, f"L26: {word}")
        for name, node in nodes(ast.Attribute):
            is_own = node.attr in own or node.attr not in PYTHONS_METHODS
            self.fine("L17, L25", name, node, node.attr not in NOWHERE and (node.attr in METHODS or is_own))

    def test_values_of_objects(self):
        own = {row for name, node in nodes(ast.ClassDef) for row in methods(node)}
        for name, node in nodes(ast.ClassDef):
            self.assertEqual(len(methods(node)), len(set(methods(node))), f"L18: {name}, {node.name}")
        for name, node in nodes(ast.Attribute):
            if isinstance(node.ctx, ast.Store):
                self.assertRegex(node.attr, r"\A[A-Za-z][A-Za-z0-9_]*\Z", f"L12: {name}")
                self.fine("L18", name, node, node.attr not in own and isinstance(node.value, ast.Name))
                is_free = node.attr in OWN_VALUES or node.attr not in PYTHONS_METHODS | NO_VALUES
                self.fine("L26", name, node, is_free)

    def test_methods_are_called_where_they_stand(self):
        own = {row for name, node in nodes(ast.ClassDef) for row in methods(node)}
        for name, tree in trees():
            above = parents(tree)
            for node in ast.walk(tree):
                if isinstance(node, ast.Attribute) and node.attr in own | METHODS:
                    self.fine("L25", name, node, isinstance(above[node], ast.Call) and above[node].func == node)

    def test_python_methods_with_two_underscores(self):
        for name, node in nodes(ast.ClassDef):
            for row in node.body:
                if isinstance(row, ast.FunctionDef) and row.name == "__init__":
                    told = [below for below in ast.walk(row) if isinstance(below, ast.Return)]
                    self.fine("L28", name, row, not told)

    def test_sets_are_not_kept(self):
        for name, tree in trees():
            above = parents(tree)
            for node in ast.walk(tree):
                if called(node) in ("set", "frozenset"):
                    around = above[node]
                    while isinstance(around, ast.BinOp):
                        around = above[around]
                    is_asked = called(around) in ("sorted", "len") and not around.keywords
                    self.fine("L24", name, node, is_asked or isinstance(around, ast.Compare))

    def test_lists_and_dicts_of_the_top_are_only_read(self):
        for name, tree in trees():
            above = parents(tree)
            tops = {node.targets[0].id: node.value for node in tree.body if isinstance(node, ast.Assign)}
            kept = {word for word, value in tops.items() if isinstance(value, (ast.List, ast.Dict))}
            for node in ast.walk(tree):
                if isinstance(node, ast.Name) and isinstance(node.ctx, ast.Load) and node.id in kept:
                    around = above[node]
                    is_index = isinstance(around, ast.Subscript) and isinstance(around.ctx, ast.Load)
                    is_get = isinstance(around, ast.Attribute) and around.attr == "get"
                    is_asked = isinstance(around, (ast.Compare, ast.For, ast.comprehension))
                    self.fine("L15", name, node, is_index or is_get or is_asked or called(around) in WALKERS + ("len",))

    def test_keywords(self):
        told = {"sorted": ("key", "reverse"), "min": ("key", "default"), "max": ("key", "default"), "sum": ("start",),
                "enumerate": ("start",), "zip": ("strict",)}
        for name, node in nodes(ast.Call):
            for row in node.keywords:
                self.fine("L22", name, node, row.arg in told.get(called(node), ()))

    def test_what_is_walked_at_once_is_not_kept(self):
        for name, tree in trees():
            fine = set()
            for node in ast.walk(tree):
                if isinstance(node, (ast.For, ast.comprehension)):
                    fine.add(node.iter)
                elif isinstance(node, ast.Call) and isinstance(node.func, ast.Name) and node.func.id in WALKERS:
                    fine |= set(node.args if node.func.id == "zip" else node.args[:1])
            for node in ast.walk(tree):
                if isinstance(node, ast.Call):
                    word = getattr(node.func, "id", getattr(node.func, "attr", ""))
                    self.fine("L23", name, node, word not in WALKED or node in fine)

    def test_is_stands_beside_none_and_truths_alone(self):
        for name, node in nodes(ast.Compare):
            for sign, right in zip(node.ops, node.comparators):
                if isinstance(sign, (ast.Is, ast.IsNot)):
                    self.fine("L20", name, node, isinstance(right, ast.Constant) and right.value in (None, True, False))

    def test_imports_are_of_the_package_and_go_one_way(self):
        drawn = {file.stem: set() for file in files()}
        for name, node in nodes(ast.ImportFrom):
            self.fine("L2, L16", name, node, node.level == 0 and re.match(r"pastways\.[a-z_0-9]+\Z", node.module))
            self.fine("L2", name, node, all(row.name != "*" for row in node.names))
            drawn[name.removesuffix(".py")] |= {node.module.split(".")[1], "__init__"}
        while drawn:
            ends = [name for name in drawn if not drawn[name] & set(drawn)]
            self.assertTrue(ends, f"L16: round in {sorted(drawn)}")
            drawn = {name: drawn[name] for name in drawn if name not in ends}


if __name__ == "__main__":
    unittest.main()
