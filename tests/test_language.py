"""The package keeps to the small part of Python that it's written in, as far as a look at the code can tell."""

import ast
import builtins
import pathlib
import re
import unittest

PACKAGE = pathlib.Path(__file__).resolve().parent.parent / "twinsensors"

CALLED = set("""len range enumerate zip min max sum abs sorted reversed int str bool list tuple dict set frozenset
isinstance ord repr any all divmod""".split())
METHODS = set("""append clear copy count endswith extend find get index insert isalnum isalpha isdigit islower isspace
isupper items join keys ljust lower lstrip partition pop remove replace reverse rfind rjust rpartition rsplit rstrip
setdefault split splitlines startswith strip update upper values zfill bit_length""".split())
WORDS = """type typing typing_extensions enum Enum IntEnum StrEnum Flag IntFlag Generic Protocol ABC ABCMeta namedtuple
NamedTuple TypedDict TYPE_CHECKING abstractmethod""".split()
NODES = """Module Expr Constant Assign AugAssign Name Load Store FunctionDef arguments arg Return If While For Break
Continue Pass BinOp Add Sub Mult FloorDiv Mod Compare Eq NotEq Lt LtE Gt GtE In NotIn Is IsNot BoolOp And Or UnaryOp Not
USub IfExp Call Attribute Subscript Slice List Tuple Dict ListComp comprehension ImportFrom alias ClassDef""".split()


def sources():
    return sorted(PACKAGE.rglob("*.py"))


def trees():
    return [(path, ast.parse(path.read_text("utf-8"))) for path in sources()]


def own_attributes():
    found = set()
    for kind in (str, int, list, dict, set, bytes, tuple):
        found |= set(dir(kind))
    return found


class Files(unittest.TestCase):
    def test_only_python_files(self):
        for path in PACKAGE.iterdir():
            if path.name != "__pycache__":
                self.assertRegex(path.name, r"^(__init__|[a-z][a-z0-9_]*)\.py$")
                self.assertNotIn(path.stem, dir(builtins))

    def test_signs_and_sizes(self):
        for path in sources():
            whole = path.read_text("utf-8")
            self.assertRegex(whole, r"^[ -~\n]*$", path.name)
            lines = whole.split("\n")
            self.assertLessEqual(len(lines), 400, path.name)
            self.assertLessEqual(max(map(len, lines)), 120, path.name)
            for word in WORDS:
                self.assertIsNone(re.search(rf"\b{word}\b", whole), (path.name, word))

    def test_functions_are_short(self):
        for path, tree in trees():
            for node in ast.walk(tree):
                if isinstance(node, ast.FunctionDef):
                    self.assertLessEqual(node.end_lineno - node.lineno + 1, 40, (path.name, node.name))


class Code(unittest.TestCase):
    def test_only_plain_parts(self):
        for path, tree in trees():
            for node in ast.walk(tree):
                self.assertIn(type(node).__name__, NODES, (path.name, getattr(node, "lineno", 0)))
                if isinstance(node, ast.Constant):
                    self.assertIn(type(node.value), (int, str, bool, type(None)), path.name)
                if isinstance(node, ast.Assign):
                    self.assertEqual(len(node.targets), 1)
                    self.assertNotIsInstance(node.targets[0], (ast.Tuple, ast.List))
                if isinstance(node, (ast.For, ast.While)):
                    self.assertEqual(node.orelse, [])
                if isinstance(node, ast.FunctionDef):
                    self.assertEqual((node.decorator_list, node.args.vararg, node.args.kwarg, node.args.kwonlyargs),
                                     ([], None, None, []))

    def test_imports(self):
        drawn = {}
        for path, tree in trees():
            for node in tree.body:
                if isinstance(node, ast.ImportFrom):
                    self.assertEqual(node.level, 0)
                    self.assertRegex(node.module, r"^twinsensors\.[a-z]+$")
                    self.assertTrue(all(name.asname is None and name.name != "*" for name in node.names))
                    source = ast.parse((PACKAGE / (node.module.split(".")[1] + ".py")).read_text("utf-8"))
                    names = {part.name for part in source.body if isinstance(part, (ast.FunctionDef, ast.ClassDef))}
                    names |= {part.targets[0].id for part in source.body if isinstance(part, ast.Assign)}
                    self.assertLessEqual({name.name for name in node.names}, names, path.name)
                    drawn.setdefault(path.stem, set()).add(node.module.split(".")[1])
        while drawn:
            ready = [name for name in drawn if not drawn[name] & set(drawn)]
            self.assertTrue(ready, "files draw from one another")
            for name in ready:
                del drawn[name]

    def test_nothing_is_drawn_in_vain(self):
        for path, tree in trees():
            used = {node.id for node in ast.walk(tree) if isinstance(node, ast.Name)}
            for node in tree.body:
                if isinstance(node, ast.ImportFrom):
                    self.assertLessEqual({name.name for name in node.names}, used, path.name)

    def test_names(self):
        for path, tree in trees():
            imported = {name.name for node in tree.body if isinstance(node, ast.ImportFrom) for name in node.names}
            classes = {node.name for node in tree.body if isinstance(node, ast.ClassDef)}
            top = [node.targets[0].id for node in tree.body if isinstance(node, ast.Assign)]
            top += [node.name for node in tree.body if isinstance(node, (ast.FunctionDef, ast.ClassDef))]
            self.assertEqual(len(top), len(set(top) - imported), path.name)
            bound = {node.id for node in ast.walk(tree) if isinstance(node, ast.Name) and isinstance(node.ctx, ast.Store)}
            bound |= {node.arg for node in ast.walk(tree) if isinstance(node, ast.arg)}
            self.assertEqual(bound & (imported | classes | set(dir(builtins))), set(), path.name)
            self.assertTrue(all(re.match("[A-Za-z]", name) for name in bound), path.name)
            read = {node.id for node in ast.walk(tree) if isinstance(node, ast.Name)}
            self.assertLessEqual(read & set(dir(builtins)), CALLED, path.name)

    def test_methods_and_values(self):
        methods, values, asked = set(), set(), set()
        for path, tree in trees():
            for node in ast.walk(tree):
                if isinstance(node, ast.ClassDef):
                    methods |= {part.name for part in node.body if isinstance(part, ast.FunctionDef)}
                if isinstance(node, ast.Attribute):
                    (values if isinstance(node.ctx, ast.Store) else asked).add(node.attr)
        methods.discard("__init__")
        self.assertEqual(methods & values, set())
        self.assertEqual((methods | values) & own_attributes(), set())
        self.assertLessEqual(asked - methods - values, METHODS)


if __name__ == "__main__":
    unittest.main()
