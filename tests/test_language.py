"""The package keeps to the small part of Python that it is written in, as far as a look at its tree tells."""

import ast
import builtins
import re
import unittest
from pathlib import Path

PACKAGE = Path(__file__).resolve().parent.parent / "blockpass"

STATEMENTS = (
    ast.Assign, ast.AugAssign, ast.If, ast.While, ast.For, ast.Return, ast.Break, ast.Continue, ast.Pass, ast.Raise,
    ast.Try, ast.Expr, ast.FunctionDef, ast.ClassDef, ast.ImportFrom,
)
NO_EXPRESSIONS = (
    ast.SetComp, ast.DictComp, ast.GeneratorExp, ast.NamedExpr, ast.Starred, ast.Await, ast.Yield, ast.YieldFrom,
    ast.Div, ast.MatMult, ast.Set,
)
OWN_NAMES = set(
    "len range enumerate zip min max sum abs sorted reversed int str bool list tuple dict set frozenset isinstance ord "
    "repr any all divmod".split()
)
METHODS = set(
    "append clear copy count endswith extend find get index insert isalnum isalpha isdigit islower isspace isupper items "
    "join keys ljust lower lstrip partition pop remove replace reverse rfind rjust rpartition rsplit rstrip setdefault "
    "split splitlines startswith strip update upper values zfill bit_length".split()
)
WORDS = re.compile(
    r"\b(type|typing|typing_extensions|enum|Enum|IntEnum|StrEnum|Flag|IntFlag|Generic|Protocol|ABC|ABCMeta|namedtuple|"
    r"NamedTuple|TypedDict|TYPE_CHECKING|abstractmethod)\b|dataclass|overload|contextmanager"
)
VALUE_NAMES = set()
for own in (str, int, list, dict, set, bytes, tuple):
    VALUE_NAMES |= set(dir(own))


def files():
    return sorted(PACKAGE.glob("*.py"))


def tree_of(path):
    return ast.parse(path.read_text())


def bound_names(function):
    found = [arg.arg for arg in function.args.args]
    for node in ast.walk(function):
        if isinstance(node, ast.Name) and isinstance(node.ctx, ast.Store):
            found.append(node.id)
    return found


def is_plain(node, names):
    if isinstance(node, ast.UnaryOp) and isinstance(node.op, ast.USub):
        return is_plain(node.operand, names)
    if isinstance(node, (ast.Tuple, ast.List)):
        return all(is_plain(other, names) for other in node.elts)
    if isinstance(node, ast.Dict):
        return all(is_plain(other, names) for other in node.keys + node.values)
    if isinstance(node, ast.Name):
        return node.id in names
    return isinstance(node, ast.Constant) and (node.value is None or isinstance(node.value, (int, str)))


class Language(unittest.TestCase):
    def each(self):
        for path in files():
            with self.subTest(file=path.name):
                yield path, tree_of(path)

    def test_files(self):
        for path in PACKAGE.iterdir():
            if path.name != "__pycache__":
                self.assertRegex(path.name, r"^(__init__|[a-z][a-z0-9_]*)\.py$")
                self.assertNotIn(path.stem, dir(builtins))

    def test_signs_and_sizes(self):
        for path, tree in self.each():
            text = path.read_text()
            self.assertTrue(all(sign == "\n" or " " <= sign <= "~" for sign in text))
            self.assertIsNone(WORDS.search(text))
            rows = text.split("\n")
            self.assertLessEqual(len(rows), 400)
            self.assertLessEqual(max(len(row) for row in rows), 120)
            for node in ast.walk(tree):
                if isinstance(node, ast.FunctionDef):
                    self.assertLessEqual(node.end_lineno - node.lineno + 1, 40, node.name)

    def test_statements_and_expressions(self):
        for path, tree in self.each():
            for node in ast.walk(tree):
                self.assertNotIsInstance(node, NO_EXPRESSIONS)
                if isinstance(node, ast.stmt):
                    self.assertIsInstance(node, STATEMENTS)
                if isinstance(node, (ast.For, ast.While)):
                    self.assertEqual(node.orelse, [])
                if isinstance(node, ast.Assign):
                    self.assertEqual(len(node.targets), 1)
                    self.assertNotIsInstance(node.targets[0], (ast.Tuple, ast.List))
                if isinstance(node, ast.ListComp):
                    self.assertEqual(len(node.generators), 1)
                    self.assertLessEqual(len(node.generators[0].ifs), 1)
                if isinstance(node, ast.Constant):
                    self.assertNotIsInstance(node.value, (float, bytes, complex))
                if isinstance(node, ast.BinOp) and isinstance(node.op, ast.Pow):
                    self.assertIsInstance(node.right, ast.Constant)
                if isinstance(node, ast.Compare) and any(isinstance(op, (ast.Is, ast.IsNot)) for op in node.ops):
                    self.assertTrue(all(isinstance(other, ast.Constant) for other in node.comparators))

    def test_tops(self):
        for path, tree in self.each():
            names = []
            for node in tree.body[1:]:
                self.assertIsInstance(node, (ast.ImportFrom, ast.Assign, ast.FunctionDef, ast.ClassDef))
                if isinstance(node, ast.ImportFrom):
                    names += [alias.name for alias in node.names]
                elif isinstance(node, ast.Assign):
                    self.assertTrue(is_plain(node.value, []), ast.unparse(node))
                    names.append(node.targets[0].id)
                else:
                    self.assertEqual(node.decorator_list, [])
                    names.append(node.name)
            self.assertIsNotNone(ast.get_docstring(tree))
            self.assertEqual(len(names), len(set(names)))

    def test_imports(self):
        drawn = {}
        for path, tree in self.each():
            drawn[path.stem] = []
            for node in ast.walk(tree):
                if isinstance(node, ast.ImportFrom):
                    self.assertEqual(node.level, 0)
                    top, module = node.module.split(".")
                    self.assertEqual(top, "blockpass")
                    drawn[path.stem].append(module)
                    defined = set()
                    for other in tree_of(PACKAGE / (module + ".py")).body:
                        if isinstance(other, (ast.FunctionDef, ast.ClassDef)):
                            defined.add(other.name)
                        if isinstance(other, ast.Assign):
                            defined.add(other.targets[0].id)
                    self.assertLessEqual({alias.name for alias in node.names}, defined)
        done = set()
        while len(done) < len(drawn):
            more = {name for name in drawn if set(drawn[name]) <= done}
            self.assertNotEqual(more, done, "files that draw from one another")
            done = more

    def test_names(self):
        for path, tree in self.each():
            tops = set()
            for node in tree.body:
                if isinstance(node, (ast.FunctionDef, ast.ClassDef)):
                    tops.add(node.name)
                if isinstance(node, ast.Assign):
                    tops.add(node.targets[0].id)
                if isinstance(node, ast.ImportFrom):
                    tops |= {alias.name for alias in node.names}
            for node in ast.walk(tree):
                if isinstance(node, ast.FunctionDef):
                    local = set(bound_names(node))
                    self.assertEqual(local & (tops | set(dir(builtins))), set(), node.name)
                    used = {n.id for n in ast.walk(node) if isinstance(n, ast.Name)}
                    self.assertLessEqual(used, local | tops | OWN_NAMES)
                    for name in local:
                        self.assertRegex(name, r"^[A-Za-z][A-Za-z0-9_]*$")

    def test_methods_and_values(self):
        for path, tree in self.each():
            for node in ast.walk(tree):
                if isinstance(node, ast.Call) and isinstance(node.func, ast.Attribute):
                    self.assertIn(node.func.attr, METHODS)
                if isinstance(node, ast.Call):
                    self.assertEqual(node.keywords, [])
                if isinstance(node, ast.Attribute) and isinstance(node.ctx, ast.Store):
                    self.assertNotIn(node.attr, VALUE_NAMES)

    def test_no_top_list_or_dict_is_changed_or_handed_on(self):
        for path, tree in self.each():
            tops = {
                node.targets[0].id for node in tree.body
                if isinstance(node, ast.Assign) and isinstance(node.value, (ast.List, ast.Dict))
            }
            read = 0
            for node in ast.walk(tree):
                held = None
                if isinstance(node, ast.Subscript) and isinstance(node.ctx, ast.Load):
                    held = node.value
                if isinstance(node, ast.Attribute) and node.attr == "get":
                    held = node.value
                if isinstance(node, ast.Compare):
                    held = node.comparators[0]
                if isinstance(held, ast.Name) and held.id in tops:
                    read += 1
            loaded = [
                node for node in ast.walk(tree)
                if isinstance(node, ast.Name) and isinstance(node.ctx, ast.Load) and node.id in tops
            ]
            self.assertEqual(len(loaded), read)

    def test_sets_are_sorted_counted_or_asked_on_the_spot(self):
        for path, tree in self.each():
            held = []
            for node in ast.walk(tree):
                if isinstance(node, ast.Call) and isinstance(node.func, ast.Name) and node.func.id in ("sorted", "len"):
                    held += node.args
                if isinstance(node, ast.Compare):
                    held += [node.left] + node.comparators
            for node in ast.walk(tree):
                if isinstance(node, ast.Call) and isinstance(node.func, ast.Name) and node.func.id == "set":
                    self.assertIn(node, held, ast.unparse(node))

    def test_what_a_loop_walks_isn_t_changed_in_it(self):
        changes = ("append", "clear", "extend", "insert", "pop", "remove", "reverse", "setdefault", "update")
        for path, tree in self.each():
            for loop in ast.walk(tree):
                if not isinstance(loop, ast.For):
                    continue
                walked = {node.id for node in ast.walk(loop.iter) if isinstance(node, ast.Name)}
                for node in [inner for row in loop.body for inner in ast.walk(row)]:
                    held = None
                    if isinstance(node, ast.Attribute) and node.attr in changes:
                        held = node.value
                    if isinstance(node, ast.Subscript) and isinstance(node.ctx, ast.Store):
                        held = node.value
                    if isinstance(held, ast.Name):
                        self.assertNotIn(held.id, walked)

    def test_ranges_and_their_like_are_walked_on_the_spot(self):
        for path, tree in self.each():
            walked = []
            for node in ast.walk(tree):
                if isinstance(node, (ast.For, ast.comprehension)):
                    walked.append(node.iter)
                if isinstance(node, ast.Call) and isinstance(node.func, ast.Name) and node.func.id in (
                    "list", "tuple", "dict", "sorted", "sum", "any", "all", "enumerate", "zip", "min", "max",
                ):
                    walked += node.args[:1]
            for node in ast.walk(tree):
                if isinstance(node, ast.Call) and isinstance(node.func, ast.Name) and node.func.id in (
                    "range", "zip", "enumerate", "reversed",
                ):
                    self.assertIn(node, walked, ast.unparse(node))


if __name__ == "__main__":
    unittest.main()
