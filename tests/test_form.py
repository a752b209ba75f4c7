"""The form of the package's own files: the rows of the language's rules that a look at the source can tell."""

import ast
import builtins
import pathlib
import re
import unittest

FOLDER = pathlib.Path(__file__).resolve().parent.parent / "turnstack"
FILES = sorted(path for path in FOLDER.rglob("*") if path.is_file() and "__pycache__" not in path.parts)

OWN_NAMES = set(
    "len range enumerate zip min max sum abs sorted reversed int str bool list tuple dict set frozenset isinstance ord"
    " repr any all divmod Exception ValueError TypeError KeyError IndexError LookupError ZeroDivisionError"
    " ArithmeticError OverflowError RuntimeError NotImplementedError AttributeError StopIteration".split()
)
METHODS = set(
    "append clear copy count endswith extend find get index insert isalnum isalpha isdigit islower isspace isupper"
    " items join keys ljust lower lstrip partition pop remove replace reverse rfind rjust rpartition rsplit rstrip"
    " setdefault split splitlines startswith strip update upper values zfill bit_length __init__".split()
)
SPECIAL = {"__init__", "__eq__", "__repr__", "__str__", "__len__", "__all__", "__version__"}
WORDS_OUT = re.compile(
    r"\b(type|typing|typing_extensions|enum|Enum|IntEnum|StrEnum|Flag|IntFlag|Generic|Protocol|ABC|ABCMeta|namedtuple"
    r"|NamedTuple|TypedDict|TYPE_CHECKING|abstractmethod)\b|dataclass|overload|contextmanager"
)
NODES_OUT = (
    ast.Import, ast.With, ast.Match, ast.Delete, ast.Global, ast.Nonlocal, ast.Assert, ast.Yield, ast.YieldFrom,
    ast.Await, ast.AsyncFunctionDef, ast.AsyncFor, ast.AsyncWith, ast.SetComp, ast.DictComp, ast.GeneratorExp,
    ast.NamedExpr, ast.Starred, ast.Div,
)


class Form(unittest.TestCase):
    def setUp(self):
        self.trees = {path.name: ast.parse(path.read_text("utf-8")) for path in FILES}
        self.nodes = [(name, node) for name, tree in self.trees.items() for node in ast.walk(tree)]
        self.defs = [(name, node) for name, node in self.nodes if isinstance(node, ast.FunctionDef)]

    def none_of(self, found):
        self.assertEqual([f"{name}:{getattr(node, 'lineno', 0)}" for name, node in found], [])

    def of(self, *kinds):
        return [(name, node) for name, node in self.nodes if isinstance(node, kinds)]

    def own_methods(self):
        return {node.name for _, top in self.of(ast.ClassDef) for node in top.body if isinstance(node, ast.FunctionDef)}

    def test_files(self):
        self.assertIn("__init__.py", self.trees)
        for path in FILES:
            self.assertRegex(path.name, r"^[a-z0-9_]+\.py$")
            text = path.read_text("utf-8")
            self.assertRegex(text, r"^[ -~\n]*$", path.name)
            self.assertEqual(WORDS_OUT.findall(text), [], path.name)
            self.assertLessEqual(len(text.splitlines()), 400, path.name)
            self.assertLessEqual(max([len(line) for line in text.splitlines()], default=0), 120, path.name)

    def test_sizes_of_functions(self):
        self.none_of([(name, node) for name, node in self.defs if node.end_lineno - node.lineno >= 40])

    def test_nodes_that_are_out(self):
        self.none_of(self.of(*NODES_OUT))
        self.none_of([(n, node) for n, node in self.of(ast.For, ast.While) if node.orelse])
        self.none_of([(n, node) for n, node in self.of(ast.Try) if node.finalbody])
        self.none_of([(n, node) for n, node in self.of(ast.Assign) if len(node.targets) > 1])
        self.none_of([(n, node) for n, node in self.of(ast.Constant) if isinstance(node.value, (float, bytes))])
        self.none_of([(n, node) for n, node in self.of(ast.ListComp)
                      if len(node.generators) > 1 or len(node.generators[0].ifs) > 1])

    def test_signatures(self):
        for name, node in self.defs:
            given = node.args
            self.assertEqual((given.vararg, given.kwarg), (None, None), (name, node.name))
            self.assertEqual((given.kwonlyargs, given.posonlyargs), ([], []), (name, node.name))
        self.none_of([(n, node) for n, node in self.of(ast.FunctionDef, ast.ClassDef) if node.decorator_list])
        self.none_of([(n, node) for n, node in self.of(ast.ClassDef) if len(node.bases) > 1 or node.keywords])

    def test_imports(self):
        for name, node in self.of(ast.ImportFrom):
            self.assertRegex(node.module, r"^(turnstack\.[a-z0-9_]+|__future__)$", name)
            self.assertEqual([alias.name for alias in node.names if alias.name == "*"], [])
            self.assertIn(node, self.trees[name].body)

    def test_names(self):
        bound = [(n, node, node.id) for n, node in self.of(ast.Name) if isinstance(node.ctx, ast.Store)]
        bound += [(n, node, node.arg) for n, node in self.of(ast.arg)]
        bound += [(n, node, node.name) for n, node in self.of(ast.FunctionDef, ast.ClassDef)]
        bound += [(n, node, node.attr) for n, node in self.of(ast.Attribute)]
        self.none_of([(n, node) for n, node, word in bound if word.startswith("_") and word not in SPECIAL])
        self.none_of([(n, node) for n, node in self.of(ast.Name, ast.arg)
                      if (isinstance(node, ast.arg) or isinstance(node.ctx, ast.Store))
                      and hasattr(builtins, node.arg if isinstance(node, ast.arg) else node.id)])
        self.none_of([(n, node) for n, node in self.of(ast.Name)
                      if hasattr(builtins, node.id) and node.id not in OWN_NAMES])

    def test_no_local_is_called_like_an_import_or_a_class(self):
        for name, tree in self.trees.items():
            taken = {alias.name for node in tree.body if isinstance(node, ast.ImportFrom) for alias in node.names}
            taken |= {node.name for node in tree.body if isinstance(node, ast.ClassDef)}
            names = [node for node in ast.walk(tree) if isinstance(node, ast.Name)]
            bound = {node.id for node in names if isinstance(node.ctx, ast.Store)}
            bound |= {node.arg for node in ast.walk(tree) if isinstance(node, ast.arg)}
            self.assertEqual(bound & taken, set(), name)

    def test_no_two_files_draw_from_one_another(self):
        draws = {name[:-3]: {node.module.split(".")[-1] for node in tree.body if isinstance(node, ast.ImportFrom)}
                 for name, tree in self.trees.items()}
        for _ in draws:
            draws = {name: files.union(*[draws.get(file, set()) for file in files]) for name, files in draws.items()}
        self.assertEqual([name for name, files in draws.items() if name in files], [])

    def test_a_name_comes_from_the_file_that_defines_it(self):
        for name, node in self.of(ast.ImportFrom):
            tree = self.trees[node.module.split(".")[-1] + ".py"]
            defined = {one.name for one in tree.body if isinstance(one, (ast.FunctionDef, ast.ClassDef))}
            defined |= {target.id for one in tree.body if isinstance(one, ast.Assign) for target in one.targets}
            self.assertEqual({alias.name for alias in node.names} - defined, set(), name)

    def test_lists_and_dicts_of_a_file_s_top_are_only_read(self):
        for name, tree in self.trees.items():
            tops = {target.id for one in tree.body if isinstance(one, ast.Assign) for target in one.targets
                    if isinstance(one.value, (ast.List, ast.Dict))}
            above = {below: node for node in ast.walk(tree) for below in ast.iter_child_nodes(node)}
            for node in ast.walk(tree):
                if isinstance(node, ast.Name) and node.id in tops and isinstance(node.ctx, ast.Load):
                    over = above[node]
                    if isinstance(over, ast.Subscript):
                        self.assertIsInstance(over.ctx, ast.Load, (name, node.lineno))
                    elif isinstance(over, ast.Call):
                        self.assertIn(getattr(over.func, "id", ""), ("list", "dict", "tuple", "sorted", "len"))
                    elif isinstance(over, ast.Attribute):
                        self.assertIn(over.attr, ("get", "items", "keys", "values", "index", "count"))
                    else:
                        self.assertIsInstance(over, (ast.Compare, ast.For, ast.comprehension), (name, node.lineno))

    def test_errors_of_python_s_own_are_not_taken(self):
        own = {node.name for _, node in self.of(ast.ClassDef)}
        for name, node in self.of(ast.ExceptHandler):
            self.assertIn(getattr(node.type, "id", None), own, (name, node.lineno))

    def test_walked_at_once(self):
        for name, node in self.of(ast.Assign, ast.Return):
            if isinstance(node.value, ast.Call):
                word = getattr(node.value.func, "id", getattr(node.value.func, "attr", ""))
                self.assertNotIn(word, ("zip", "enumerate", "reversed", "range", "items", "keys", "values"), name)

    def test_methods(self):
        known = self.own_methods() | METHODS
        self.none_of([(n, node) for n, node in self.of(ast.Call)
                      if isinstance(node.func, ast.Attribute) and node.func.attr not in known])

    def test_no_name_is_a_method_and_a_value(self):
        stored = {node.attr for _, node in self.of(ast.Attribute) if isinstance(node.ctx, ast.Store)}
        self.assertEqual(self.own_methods() & stored, set())

    def test_is_stands_beside_none_and_truths(self):
        for name, node in self.of(ast.Compare):
            if isinstance(node.ops[0], (ast.Is, ast.IsNot)):
                self.assertIn(getattr(node.comparators[0], "value", self), (None, True, False), (name, node.lineno))


if __name__ == "__main__":
    unittest.main()
