"""Holds the package's files against the rules of the language that can be seen in a file's tree."""

import ast
import builtins
import pathlib
import re
import unittest

ROOT = pathlib.Path(__file__).resolve().parent.parent
PACKAGE = ROOT / "lawclasses"
NODES = set(
    "Module Expr Constant ImportFrom alias FunctionDef arguments arg ClassDef Assign AugAssign If While For Return"
    " Break Continue Pass Raise Name Load Store Attribute Subscript Slice Call BinOp UnaryOp BoolOp Compare IfExp"
    " List Tuple Dict ListComp comprehension Add Sub Mult FloorDiv Mod USub And Or Not"
    " Eq NotEq Lt LtE Gt GtE Is IsNot In NotIn".split()
)
OWN = set(
    "len range enumerate zip min max sum abs sorted reversed int str bool list tuple dict set frozenset isinstance ord"
    " repr any all divmod".split()
)
METHODS = set(
    "append clear copy count endswith extend find get index insert isalnum isalpha isdigit islower isspace isupper"
    " items join keys ljust lower lstrip partition pop remove replace reverse rfind rjust rpartition rsplit rstrip"
    " setdefault split splitlines startswith strip update upper values zfill bit_length".split()
)
UNUSED_NAMES = set("register mro elements open input version_info with_traceback add_note format format_map".split())
UNUSED_WORDS = re.compile(
    r"\b(type|typing|typing_extensions|enum|Enum|IntEnum|StrEnum|Flag|IntFlag|Generic|Protocol|ABC|ABCMeta"
    r"|namedtuple|NamedTuple|TypedDict|TYPE_CHECKING|abstractmethod)\b|dataclass|overload|contextmanager"
)
WALKED_AT_ONCE = ("zip", "enumerate", "reversed", "range", "items", "keys", "values")
CHANGING = ("append", "clear", "extend", "insert", "pop", "remove", "reverse", "setdefault", "update")
WALKING = ("list", "tuple", "dict", "sorted", "sum", "any", "all", "enumerate", "zip", "min", "max")


def bound_names(scope):
    names = [node.arg for node in ast.walk(scope) if isinstance(node, ast.arg)]
    return names + [node.id for node in ast.walk(scope) if isinstance(node, ast.Name) and isinstance(node.ctx, ast.Store)]


def called_name(node):
    if not isinstance(node, ast.Call):
        return None
    return node.func.id if isinstance(node.func, ast.Name) else node.func.attr


def is_plain(value):
    if isinstance(value, (ast.List, ast.Tuple)):
        return all(is_plain(part) for part in value.elts)
    if isinstance(value, ast.Dict):
        return all(is_plain(part) for part in value.keys + value.values)
    return isinstance(value, ast.Constant)


class Rules(unittest.TestCase):
    def setUp(self):
        self.files = sorted(PACKAGE.glob("*.py"))
        self.texts = {file: file.read_text(encoding="utf-8") for file in self.files}
        self.trees = {file: ast.parse(text) for file, text in self.texts.items()}

    def each_node(self):
        for file, tree in self.trees.items():
            for node in ast.walk(tree):
                yield f"{file.name}:{getattr(node, 'lineno', 0)}", node

    def test_files_and_signs(self):
        self.assertIn("table.py", [file.name for file in self.files])
        for path in PACKAGE.iterdir():
            self.assertTrue(path in self.files or path.name == "__pycache__", path)
        for file, text in self.texts.items():
            self.assertRegex(file.name, r"^([a-z][a-z0-9_]*|__init__)\.py$")
            self.assertFalse(file.stem != "__init__" and hasattr(builtins, file.stem), file)
            self.assertRegex(text, r"\A[ -~\n]*\Z")
            self.assertIsNone(UNUSED_WORDS.search(text), file)
            self.assertLessEqual(len(text.splitlines()), 400, file)
            self.assertLessEqual(max(len(line) for line in text.splitlines()), 120, file)

    def test_kinds_of_nodes(self):
        for place, node in self.each_node():
            self.assertIn(type(node).__name__, NODES, place)
            if isinstance(node, ast.Constant):
                self.assertIn(type(node.value), (int, str, bool, type(None)), place)
                self.assertNotIn("%", str(node.value), place)
            if isinstance(node, ast.Assign):
                self.assertEqual(len(node.targets), 1, place)
                self.assertNotIsInstance(node.targets[0], ast.Tuple, place)
            if isinstance(node, ast.ListComp):
                self.assertEqual(len(node.generators), 1, place)
                self.assertLessEqual(len(node.generators[0].ifs), 1, place)
            if isinstance(node, (ast.For, ast.While)):
                self.assertEqual(node.orelse, [], place)
            if isinstance(node, ast.Compare) and isinstance(node.ops[0], (ast.Is, ast.IsNot)):
                self.assertIn(ast.unparse(node.comparators[0]), ("None", "True", "False"), place)

    def test_top_of_files(self):
        for file, tree in self.trees.items():
            self.assertIsNotNone(ast.get_docstring(tree), file)
            names = []
            for node in tree.body[1:]:
                self.assertIsInstance(node, (ast.ImportFrom, ast.FunctionDef, ast.ClassDef, ast.Assign), file)
                if isinstance(node, ast.ImportFrom):
                    names += [alias.name for alias in node.names]
                elif isinstance(node, ast.Assign):
                    self.assertTrue(is_plain(node.value), f"{file}:{node.lineno}")
                    names.append(node.targets[0].id)
                else:
                    names.append(node.name)
            self.assertEqual(len(names), len(set(names)), file)
            for node in tree.body:
                if isinstance(node, (ast.FunctionDef, ast.ClassDef)):
                    self.assertEqual(set(bound_names(node)) & set(names), set(), f"{file}:{node.lineno}")

    def test_functions_and_classes(self):
        for place, node in self.each_node():
            if isinstance(node, ast.FunctionDef):
                self.assertLessEqual(node.end_lineno - node.lineno + 1, 40, place)
                self.assertEqual(node.decorator_list, [], place)
                arguments = node.args
                self.assertTrue(arguments.vararg is None and arguments.kwarg is None, place)
                self.assertEqual(arguments.kwonlyargs + arguments.posonlyargs, [], place)
            if isinstance(node, ast.ClassDef):
                self.assertTrue(all(isinstance(part, ast.FunctionDef) for part in node.body), place)

    def test_names(self):
        for file, tree in self.trees.items():
            own = {node.name for node in ast.walk(tree) if isinstance(node, (ast.FunctionDef, ast.ClassDef, ast.alias))}
            bound = set(bound_names(tree)) | own
            for name in bound - {"__init__"}:
                self.assertRegex(name, r"^[A-Za-z][A-Za-z0-9_]*$", file)
                self.assertFalse(hasattr(builtins, name) or name in UNUSED_NAMES, f"{file}: {name}")
            for node in ast.walk(tree):
                if isinstance(node, ast.Name):
                    self.assertIn(node.id, bound | OWN, f"{file}:{node.lineno}")
                if isinstance(node, ast.Attribute):
                    self.assertNotIn(node.attr, UNUSED_NAMES, f"{file}:{node.lineno}")

    def test_methods_and_walks(self):
        values = {node.attr for place, node in self.each_node()
                  if isinstance(node, ast.Attribute) and isinstance(node.ctx, ast.Store)}
        for value in values:
            self.assertFalse(any(hasattr(kind, value) for kind in (str, int, list, dict, set, tuple, bytes)), value)
        for place, node in self.each_node():
            if isinstance(node, ast.Call) and isinstance(node.func, ast.Attribute):
                self.assertIn(node.func.attr, METHODS, place)

    def test_walks_and_sets(self):
        above = {}
        for place, node in self.each_node():
            for part in ast.iter_child_nodes(node):
                above[part] = node
        for place, node in self.each_node():
            called = called_name(node)
            parent = above.get(node)
            if called in WALKED_AT_ONCE:
                walked = isinstance(parent, (ast.For, ast.comprehension)) and parent.iter is node
                handed = called_name(parent) in WALKING and node is parent.args[0]
                self.assertTrue(walked or handed, place)
            if called == "set":
                self.assertTrue(called_name(parent) in ("sorted", "len") or isinstance(parent, ast.Compare), place)

    def test_nothing_walked_is_changed(self):
        for place, node in self.each_node():
            if not isinstance(node, ast.For):
                continue
            walked = {part.id for part in ast.walk(node.iter) if isinstance(part, ast.Name)}
            for part in ast.walk(node):
                if isinstance(part, ast.Call) and isinstance(part.func, ast.Attribute):
                    if part.func.attr in CHANGING:
                        self.assertNotIn(ast.unparse(part.func.value), walked, place)
                if isinstance(part, ast.Subscript) and isinstance(part.ctx, ast.Store):
                    self.assertNotIn(ast.unparse(part.value), walked, place)

    def test_imports(self):
        drawn = {}
        for file, tree in self.trees.items():
            drawn[file.stem] = []
            for node in ast.walk(tree):
                if isinstance(node, ast.ImportFrom):
                    self.assertEqual(node.level, 0, file)
                    self.assertRegex(node.module, r"^lawclasses\.[a-z]+$", file)
                    source = node.module.split(".")[1]
                    drawn[file.stem].append(source)
                    defined = [getattr(part, "name", None) or part.targets[0].id
                               for part in self.trees[PACKAGE / f"{source}.py"].body
                               if isinstance(part, (ast.FunctionDef, ast.ClassDef, ast.Assign))]
                    for alias in node.names:
                        self.assertIn(alias.name, defined, file)
                        self.assertIsNone(alias.asname, file)
        while drawn:
            free = [name for name, sources in drawn.items() if not any(source in drawn for source in sources)]
            self.assertNotEqual(free, [], "files draw from one another")
            for name in free:
                drawn.pop(name)


if __name__ == "__main__":
    unittest.main()
