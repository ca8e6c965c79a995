"""The form of the code: many of the rules L1 to L28, not all (L13, L19 and parts of others are left out)."""

import ast
import builtins
import re
import unittest
from pathlib import Path

PACKAGE = Path(__file__).resolve().parent.parent / "scruplehouse"
ERRORS = """Exception ValueError TypeError KeyError IndexError LookupError ZeroDivisionError ArithmeticError
    OverflowError RuntimeError NotImplementedError AttributeError StopIteration""".split()
BUILT_IN = """len range enumerate zip min max sum abs sorted reversed int str bool list tuple dict set frozenset
    isinstance ord repr any all divmod""".split() + ERRORS
METHODS = """append clear copy count endswith extend find get index insert isalnum isalpha isdigit islower isspace
    isupper items join keys ljust lower lstrip partition pop remove replace reverse rfind rjust rpartition rsplit
    rstrip setdefault split splitlines startswith strip update upper values zfill bit_length""".split()
DUNDERS = "__init__ __eq__ __repr__ __str__ __len__".split()
NOT_NAMES = """register mro elements open input version_info with_traceback add_note attrgetter breakpoint builtins
    compile copyright credits delattr dir eval exec exit gc getattr globals hasattr help id importlib license locals
    methodcaller os quit setattr super vars sys""".split()
NOT_WORDS = re.compile(r"\b(type|typing|typing_extensions|enum|Enum|IntEnum|StrEnum|Flag|IntFlag|Generic|Protocol|ABC"
                       r"|ABCMeta|namedtuple|NamedTuple|TypedDict|TYPE_CHECKING|abstractmethod)\b"
                       r"|dataclass|overload|contextmanager")
NOT_NODES = (ast.With, ast.Match, ast.Delete, ast.Global, ast.Nonlocal, ast.Assert, ast.Yield, ast.YieldFrom,
             ast.AsyncFunctionDef, ast.AsyncFor, ast.AsyncWith, ast.Await, ast.SetComp, ast.DictComp,
             ast.GeneratorExp, ast.NamedExpr, ast.Starred, ast.Div, ast.MatMult, ast.Import, ast.Set, ast.AnnAssign)


def is_plain(value, functions):
    if isinstance(value, (ast.List, ast.Tuple)):
        return all(is_plain(part, functions) for part in value.elts)
    if isinstance(value, ast.Dict):
        return all(is_plain(part, functions) for part in value.keys + value.values)
    if isinstance(value, ast.UnaryOp):
        return isinstance(value.op, ast.USub) and isinstance(value.operand, ast.Constant)
    if isinstance(value, ast.Name):
        return value.id in functions
    return isinstance(value, ast.Constant)


def defined_names(tree):
    names = [node.name for node in tree.body if isinstance(node, (ast.FunctionDef, ast.ClassDef))]
    return names + [node.targets[0].id for node in tree.body if isinstance(node, ast.Assign)]


class Form(unittest.TestCase):
    def setUp(self):
        self.files = sorted(path for path in PACKAGE.rglob("*") if "__pycache__" not in path.parts)
        self.texts = {path: path.read_text(encoding="utf-8") for path in self.files}
        self.trees = {path: ast.parse(text) for path, text in self.texts.items()}

    def nodes(self, *kinds):
        for path, tree in self.trees.items():
            for node in ast.walk(tree):
                if isinstance(node, kinds):
                    yield f"{path.name}:{getattr(node, 'lineno', 0)}", node

    def test_files(self):
        self.assertIn("__init__.py", [path.name for path in self.files])
        for path in self.files:
            self.assertRegex(path.name, r"^([a-z][a-z0-9_]*|__init__)\.py$")
            self.assertNotRegex(path.name, r"^(tests?|testing|test_.*|site|conftest|sitecustomize|usercustomize)\.py$")
            self.assertNotIn(path.stem, BUILT_IN + NOT_NAMES)

    def test_signs_and_sizes(self):
        for path, text in self.texts.items():
            self.assertRegex(text, r"^[ -~\n]*$", path.name)
            self.assertIsNone(NOT_WORDS.search(text), path.name)
            self.assertLessEqual(len(text.splitlines()), 400, path.name)
            self.assertLessEqual(max(len(line) for line in text.splitlines()), 120, path.name)
        for spot, node in self.nodes(ast.FunctionDef):
            self.assertLessEqual(node.end_lineno - node.lineno + 1, 40, spot)

    def test_imports(self):
        for path, tree in self.trees.items():
            for node in tree.body:
                if isinstance(node, ast.ImportFrom):
                    self.assertEqual(node.level, 0, path.name)
                    drawn = PACKAGE / (node.module.removeprefix("scruplehouse.") + ".py")
                    self.assertIn(drawn, self.trees, path.name)
                    defined = defined_names(self.trees[drawn])
                    for name in node.names:
                        self.assertIn(name.name, defined, path.name)
                        self.assertIsNone(name.asname, path.name)
        top = [node for tree in self.trees.values() for node in tree.body]
        for spot, node in self.nodes(ast.ImportFrom):
            self.assertIn(node, top, spot)

    def test_no_two_files_draw_from_one_another(self):
        draws = {path.stem: [node.module.rpartition(".")[2] for node in tree.body if isinstance(node, ast.ImportFrom)]
                 for path, tree in self.trees.items()}
        while draws:
            free = [name for name, drawn in draws.items() if not any(other in draws for other in drawn)]
            self.assertTrue(free, f"in a ring: {sorted(draws)}")
            draws = {name: drawn for name, drawn in draws.items() if name not in free}

    def test_the_top_of_a_file(self):
        for path, tree in self.trees.items():
            bound = []
            functions = []
            self.assertIsNotNone(ast.get_docstring(tree), path.name)
            for node in tree.body[1:]:
                if isinstance(node, ast.Assign):
                    self.assertEqual([type(target) for target in node.targets], [ast.Name], path.name)
                    self.assertTrue(is_plain(node.value, functions), f"{path.name}:{node.lineno}")
                    bound.append(node.targets[0].id)
                else:
                    self.assertIsInstance(node, (ast.ImportFrom, ast.FunctionDef, ast.ClassDef), path.name)
                    bound += [name.name for name in node.names] if isinstance(node, ast.ImportFrom) else [node.name]
                if isinstance(node, ast.FunctionDef):
                    functions.append(node.name)
            self.assertEqual(len(bound), len(set(bound)), path.name)

    def test_functions_and_classes(self):
        for spot, node in self.nodes(ast.FunctionDef):
            self.assertEqual(node.decorator_list, [], spot)
            self.assertFalse(node.args.vararg or node.args.kwarg or node.args.kwonlyargs or node.args.posonlyargs, spot)
            self.assertIsNone(node.returns, spot)
        for spot, node in self.nodes(ast.ClassDef):
            self.assertEqual(node.decorator_list, [], spot)
            self.assertLessEqual(len(node.bases), 1, spot)
            body = node.body[1:] if ast.get_docstring(node) else node.body
            self.assertTrue(all(isinstance(part, ast.FunctionDef) for part in body), spot)
            self.assertEqual(len(body), len({part.name for part in body}), spot)

    def test_statements_and_expressions(self):
        for spot, node in self.nodes(NOT_NODES):
            self.fail(f"{spot}: {type(node).__name__}")
        for spot, node in self.nodes(ast.Assign):
            self.assertEqual(len(node.targets), 1, spot)
        for spot, node in self.nodes(ast.For, ast.While):
            self.assertEqual(node.orelse, [], spot)
        for spot, node in self.nodes(ast.Try):
            self.assertEqual(node.finalbody, [], spot)
        for spot, node in self.nodes(ast.ListComp):
            self.assertEqual(len(node.generators), 1, spot)
            self.assertLessEqual(len(node.generators[0].ifs), 1, spot)
        for spot, node in self.nodes(ast.FormattedValue):
            self.assertIsInstance(node.value, ast.Name, spot)
            self.assertIsNone(node.format_spec, spot)
        for spot, node in self.nodes(ast.Constant):
            self.assertIn(type(node.value), (int, str, bool, type(None)), spot)
            if isinstance(node.value, str):
                self.assertNotIn("%", node.value, spot)
        for spot, node in self.nodes(ast.Compare):
            if any(isinstance(op, (ast.Is, ast.IsNot)) for op in node.ops):
                self.assertIn(getattr(node.comparators[0], "value", 0), (None, True, False), spot)

    def test_names(self):
        shown = dir(builtins)
        for spot, node in self.nodes(ast.Name):
            self.assertRegex(node.id, r"^[A-Za-z][A-Za-z0-9_]*$", spot)
            self.assertNotIn(node.id, NOT_NAMES, spot)
            if node.id in shown:
                self.assertIn(node.id, BUILT_IN, spot)
                self.assertIsInstance(node.ctx, ast.Load, spot)
        for spot, node in self.nodes(ast.arg):
            self.assertNotIn(node.arg, shown, spot)
            self.assertIsNone(node.annotation, spot)
        for path, tree in self.trees.items():
            taken = [name.name for node in tree.body if isinstance(node, ast.ImportFrom) for name in node.names]
            taken += [node.name for node in tree.body if isinstance(node, ast.ClassDef)]
            for node in ast.walk(tree):
                if isinstance(node, ast.arg) or isinstance(node, ast.Name) and isinstance(node.ctx, ast.Store):
                    self.assertNotIn(getattr(node, "arg", None) or node.id, taken, path.name)

    def test_methods_and_values(self):
        own = {node.name for spot, outer in self.nodes(ast.ClassDef) for node in outer.body
               if isinstance(node, ast.FunctionDef)}
        values = {node.attr for spot, node in self.nodes(ast.Attribute) if isinstance(node.ctx, ast.Store)}
        self.assertEqual(own & values, set())
        for name in own | values:
            self.assertTrue(name in DUNDERS or re.match(r"^[A-Za-z]", name), name)
        for spot, node in self.nodes(ast.Call):
            if isinstance(node.func, ast.Attribute):
                self.assertIn(node.func.attr, METHODS + DUNDERS + sorted(own), spot)

    def test_errors_that_are_taken(self):
        for spot, node in self.nodes(ast.ExceptHandler):
            self.assertIsInstance(node.type, (ast.Name, ast.Tuple), spot)
            named = node.type.elts if isinstance(node.type, ast.Tuple) else [node.type]
            for name in named:
                self.assertNotIn(name.id, ("Exception", "TypeError"), spot)

    def parents(self):
        return {child: node for tree in self.trees.values() for node in ast.walk(tree)
                for child in ast.iter_child_nodes(node)}

    def test_walked_at_once(self):
        parents = self.parents()
        for spot, node in self.nodes(ast.Call):
            name = getattr(node.func, "id", None) or getattr(node.func, "attr", None)
            if name not in ("zip", "enumerate", "reversed", "range", "items", "keys", "values"):
                continue
            outer = parents[node]
            if isinstance(outer, (ast.For, ast.comprehension)):
                self.assertIs(outer.iter, node, spot)
            else:
                self.assertIsInstance(outer, ast.Call, spot)
                self.assertIs(outer.args[0], node, spot)
                self.assertIn(outer.func.id, "list tuple dict sorted sum any all enumerate zip".split(), spot)

    def test_sets_are_not_kept(self):
        parents = self.parents()
        for spot, node in self.nodes(ast.Call):
            if isinstance(node.func, ast.Name) and node.func.id in ("set", "frozenset"):
                outer = parents[node]
                self.assertIsInstance(outer, ast.Call, spot)
                self.assertIn(outer.func.id, ("sorted", "len"), spot)
                self.assertEqual(outer.keywords, [], spot)


if __name__ == "__main__":
    unittest.main()
