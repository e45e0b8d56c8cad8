"""Whether the package keeps to the rules of LANGUAGE.md, as far as they can be seen in its files."""

import ast
import builtins
import re
import unittest
from pathlib import Path

PACKAGE = Path(__file__).resolve().parent.parent / "fieldplan"

NODES = set(
    "Module FunctionDef ClassDef arguments arg Assign AugAssign If While For Return Break Continue Pass Raise Try "
    "ExceptHandler Expr ImportFrom alias Constant Name Load Store List Tuple Dict Set BinOp Add Sub Mult FloorDiv Mod "
    "Pow BitAnd BitOr BitXor LShift RShift UnaryOp USub Not Invert BoolOp And Or Compare Eq NotEq Lt LtE Gt GtE In "
    "NotIn Is IsNot IfExp Call keyword Attribute Subscript Slice ListComp comprehension Lambda JoinedStr "
    "FormattedValue".split()
)
BUILTINS = set(
    "len range enumerate zip min max sum abs sorted reversed int str bool list tuple dict set frozenset isinstance ord "
    "repr any all divmod Exception ValueError KeyError IndexError LookupError ZeroDivisionError ArithmeticError "
    "OverflowError RuntimeError NotImplementedError StopIteration".split()
)
METHODS = set(
    "append clear copy count endswith extend find get index insert isalnum isalpha isdigit islower isspace isupper "
    "items join keys ljust lower lstrip partition pop remove replace reverse rfind rjust rpartition rsplit rstrip "
    "setdefault split splitlines startswith strip update upper values zfill bit_length".split()
)
VALUES_LIKE_PYTHONS = set("count index title find get join lower upper split strip copy add".split())
PYTHONS = {name for kind in (str, int, list, dict, set, bytes) for name in vars(kind)}
WORDS = re.compile(
    r"\b(type|typing|typing_extensions|enum|Enum|IntEnum|StrEnum|Flag|IntFlag|Generic|Protocol|ABC|ABCMeta|namedtuple|"
    r"NamedTuple|TypedDict|TYPE_CHECKING|abstractmethod|register|mro|elements|open|input|version_info|with_traceback|"
    r"add_note|eval|exec|getattr|setattr|globals|locals|super|vars|chr)\b|dataclass|overload|contextmanager"
)
SPECIAL = {"__init__", "__eq__", "__repr__", "__str__", "__len__"}


def plain_value(node):
    if isinstance(node, (ast.List, ast.Tuple)):
        return all(plain_value(part) for part in node.elts)
    if isinstance(node, ast.Dict):
        return all(plain_value(part) for part in node.keys + node.values)
    if isinstance(node, ast.UnaryOp) and isinstance(node.op, ast.USub):
        node = node.operand
    return isinstance(node, ast.Constant) and isinstance(node.value, (int, str, type(None)))


class Language(unittest.TestCase):
    def setUp(self):
        self.files = {path: path.read_text("utf-8") for path in sorted(PACKAGE.rglob("*.py"))}
        self.trees = {path: ast.parse(text) for path, text in self.files.items()}

    def nodes(self, *kinds):
        for path, tree in self.trees.items():
            for node in ast.walk(tree):
                if isinstance(node, kinds):
                    yield f"{path.name}:{getattr(node, 'lineno', '')}", node

    def test_files(self):
        self.assertGreater(len(self.files), 1)
        for path in PACKAGE.rglob("*"):
            if path.name != "__pycache__" and path.parent.name != "__pycache__":
                self.assertRegex(path.name, r"\A(__init__|__main__|[a-z][a-z0-9_]*)\.py\Z")
                self.assertNotIn(path.stem, dir(builtins))

    def test_size_and_signs(self):
        for path, text in self.files.items():
            self.assertRegex(text, r"\A[ -~\n]*\Z", path.name)
            self.assertLessEqual(len(text.splitlines()), 400, path.name)
            self.assertLessEqual(max(len(line) for line in text.splitlines()), 120, path.name)
        for where, node in self.nodes(ast.FunctionDef):
            self.assertLessEqual(node.end_lineno - node.lineno + 1, 40, where)

    def test_words(self):
        for path, text in self.files.items():
            self.assertIsNone(WORDS.search(text), path.name)

    def test_nodes(self):
        for where, node in self.nodes(ast.AST):
            self.assertIn(type(node).__name__, NODES, where)
        for where, node in self.nodes(ast.Assign):
            self.assertEqual(len(node.targets), 1, where)
            self.assertIsInstance(node.targets[0], (ast.Name, ast.Attribute, ast.Subscript), where)
        for where, node in self.nodes(ast.For, ast.While):
            self.assertEqual(node.orelse, [], where)
        for where, node in self.nodes(ast.Try):
            self.assertEqual(node.finalbody, [], where)
        for where, node in self.nodes(ast.ListComp):
            self.assertEqual(len(node.generators), 1, where)
            self.assertLessEqual(len(node.generators[0].ifs), 1, where)

    def test_constants(self):
        for where, node in self.nodes(ast.Constant):
            self.assertIsInstance(node.value, (int, str, type(None)), where)
            if isinstance(node.value, str):
                self.assertNotIn("%", node.value, where)
        for where, node in self.nodes(ast.BinOp):
            if isinstance(node.op, ast.Pow):
                self.assertIsInstance(node.right, ast.Constant, where)

    def test_is_stands_beside_plain_values(self):
        for where, node in self.nodes(ast.Compare):
            for op, right in zip(node.ops, node.comparators):
                if isinstance(op, (ast.Is, ast.IsNot)):
                    self.assertTrue(isinstance(right, ast.Constant) and right.value in (None, True, False), where)

    def test_tops(self):
        for path, tree in self.trees.items():
            bound = []
            for place, node in enumerate(tree.body):
                where = f"{path.name}:{node.lineno}"
                if isinstance(node, ast.Assign):
                    self.assertTrue(plain_value(node.value), where)
                    bound.append(node.targets[0].id)
                elif isinstance(node, (ast.FunctionDef, ast.ClassDef)):
                    bound.append(node.name)
                elif isinstance(node, ast.ImportFrom):
                    bound.extend(name.name for name in node.names)
                else:
                    self.assertTrue(place == 0 and ast.get_docstring(tree), where)
            self.assertEqual(len(bound), len(set(bound)), path.name)

    def test_imports(self):
        drawn = {}
        for path, tree in self.trees.items():
            drawn[path.stem] = set()
            for node in ast.walk(tree):
                if not isinstance(node, ast.ImportFrom):
                    continue
                self.assertIn(node, tree.body, path.name)
                self.assertRegex(node.module, r"\Afieldplan\.[a-z_0-9]+\Z")
                source = node.module.split(".")[1]
                drawn[path.stem].add(source)
                defined = [part.name for part in self.trees[PACKAGE / f"{source}.py"].body if hasattr(part, "name")]
                defined += [part.targets[0].id for part in self.trees[PACKAGE / f"{source}.py"].body
                            if isinstance(part, ast.Assign)]
                for name in node.names:
                    self.assertIn(name.name, defined, path.name)
                    self.assertIsNone(name.asname, path.name)
                    self.assertGreater(len(re.findall(rf"\b{name.name}\b", self.files[path])), 1, name.name)
        self.assertEqual(drawn["__init__"], set())
        while drawn:
            free = [stem for stem, sources in drawn.items() if not sources & set(drawn)]
            self.assertTrue(free, f"files draw from one another: {sorted(drawn)}")
            for stem in free:
                drawn.pop(stem)

    def test_functions_and_classes(self):
        for where, node in self.nodes(ast.FunctionDef, ast.Lambda):
            args = node.args
            self.assertFalse(args.vararg or args.kwarg or args.kwonlyargs or args.posonlyargs, where)
            self.assertFalse(getattr(node, "decorator_list", []), where)
        for where, node in self.nodes(ast.ClassDef):
            self.assertLessEqual(len(node.bases), 1, where)
            self.assertFalse(node.decorator_list or node.keywords, where)
            for place, part in enumerate(node.body):
                self.assertTrue(isinstance(part, ast.FunctionDef) or (place == 0 and ast.get_docstring(node)), where)

    def test_names(self):
        for path, tree in self.trees.items():
            tops = {part.name for part in tree.body if isinstance(part, ast.ClassDef)}
            tops |= {name.name for part in tree.body if isinstance(part, ast.ImportFrom) for name in part.names}
            for node in ast.walk(tree):
                where = f"{path.name}:{getattr(node, 'lineno', '')}"
                if isinstance(node, ast.Name) and isinstance(node.ctx, ast.Load) and node.id in dir(builtins):
                    self.assertIn(node.id, BUILTINS, where)
                bound = None
                if isinstance(node, ast.Name) and isinstance(node.ctx, ast.Store):
                    bound = node.id
                if isinstance(node, ast.arg):
                    bound = node.arg
                if isinstance(node, (ast.FunctionDef, ast.ClassDef)):
                    self.assertTrue(node.name in SPECIAL or not node.name.startswith("_"), where)
                if bound is not None:
                    self.assertFalse(bound.startswith("_") or bound in tops or bound in dir(builtins), where)

    def test_methods_and_values(self):
        methods = {part.name for where, node in self.nodes(ast.ClassDef) for part in node.body
                   if isinstance(part, ast.FunctionDef)}
        values = {node.attr for where, node in self.nodes(ast.Attribute) if isinstance(node.ctx, ast.Store)}
        self.assertEqual(methods & values, set())
        self.assertEqual(values & PYTHONS - VALUES_LIKE_PYTHONS, set())
        self.assertEqual((methods - SPECIAL) & PYTHONS - METHODS - {"add", "discard"}, set())
        for where, node in self.nodes(ast.Attribute):
            self.assertIn(node.attr, methods | values | METHODS, where)


if __name__ == "__main__":
    unittest.main()
