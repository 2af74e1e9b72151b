"""Checks the rules of LANGUAGE.md that can be read off the package's files. It is stricter than some of them."""

import ast
import builtins
import pathlib
import re
import unittest
import warnings

FOLDER = pathlib.Path(__file__).resolve().parent.parent / "packedseats"

BUILTINS = set(
    "len range enumerate zip min max sum abs sorted reversed int str bool list tuple dict set isinstance ord repr any"
    " all divmod True False None ValueError KeyError IndexError".split()
)
METHODS = set(
    "append clear copy count endswith extend find get index insert isalnum isalpha isdigit islower isspace isupper"
    " items join keys ljust lower lstrip partition pop remove replace reverse rfind rjust rpartition rsplit rstrip"
    " setdefault split splitlines startswith strip update upper values zfill bit_length add discard isascii".split()
)
SPECIAL_METHODS = {"__init__", "__eq__", "__repr__", "__str__", "__len__"}
UNUSED_NAMES = set(
    "register mro elements open input law version_info with_traceback add_note attrgetter breakpoint compile copyright"
    " credits delattr dir eval exec exit gc getattr globals hasattr help id importlib license locals methodcaller os"
    " quit setattr super type vars sys format".split()
)
BARRED_WORDS = re.compile(
    r"\b(type|typing|typing_extensions|enum|Enum|IntEnum|StrEnum|Flag|IntFlag|Generic|Protocol|ABC|ABCMeta"
    r"|namedtuple|NamedTuple|TypedDict|TYPE_CHECKING|abstractmethod)\b|dataclass|overload|contextmanager"
)
BARRED_NODES = (
    ast.AsyncFunctionDef, ast.AsyncFor, ast.AsyncWith, ast.Await, ast.Global, ast.Nonlocal, ast.Lambda, ast.Yield,
    ast.YieldFrom, ast.With, ast.Match, ast.NamedExpr, ast.Div, ast.MatMult, ast.Delete, ast.AnnAssign, ast.Import,
    ast.TypeAlias if hasattr(ast, "TypeAlias") else ast.Await, ast.TryStar, ast.GeneratorExp,
)
ITERATED_ON_THE_SPOT = {"zip", "enumerate", "reversed", "map"}
VIEWS = {"items", "keys", "values"}
TAKE_ITERABLES = {"list", "tuple", "dict", "sorted", "sum", "any", "all", "enumerate", "zip", "min", "max"}


def read_files():
    return {path.name: path.read_text(encoding="utf-8") for path in sorted(FOLDER.glob("*.py"))}


def parents_of(tree):
    return {child: node for node in ast.walk(tree) for child in ast.iter_child_nodes(node)}


def functions_of(tree):
    return [node for node in ast.walk(tree) if isinstance(node, ast.FunctionDef)]


def docstrings_of(tree):
    holders = [node for node in ast.walk(tree) if isinstance(node, (ast.Module, ast.ClassDef, ast.FunctionDef))]
    firsts = [node.body[0] for node in holders if node.body]
    return [node.value for node in firsts if isinstance(node, ast.Expr) and isinstance(node.value, ast.Constant)]


def bound_names(function):
    arguments = function.args
    names = [part.arg for part in arguments.posonlyargs + arguments.args + arguments.kwonlyargs]
    names += [part.arg for part in (arguments.vararg, arguments.kwarg) if part]
    return names + [n.id for n in ast.walk(function) if isinstance(n, ast.Name) and not isinstance(n.ctx, ast.Load)]


def module_names(tree):
    names = []
    for node in tree.body:
        if isinstance(node, (ast.FunctionDef, ast.ClassDef)):
            names.append(node.name)
        elif isinstance(node, ast.ImportFrom):
            names += [alias.name for alias in node.names]
        elif isinstance(node, ast.Assign):
            names += [target.id for target in node.targets]
    return names


class LanguageTest(unittest.TestCase):
    def setUp(self):
        self.texts = read_files()
        self.trees = {name: ast.parse(text) for name, text in self.texts.items()}

    def each_node(self):
        for name, tree in self.trees.items():
            for node in ast.walk(tree):
                yield f"{name}:{getattr(node, 'lineno', 0)}", node

    def test_the_folder_holds_only_plain_files(self):
        entries = [path for path in FOLDER.iterdir() if path.name != "__pycache__"]
        self.assertIn("__init__.py", self.texts)
        for path in entries:
            self.assertTrue(path.is_file() and re.fullmatch(r"[a-z0-9_]+\.py", path.name), path)
            if path.name != "__init__.py":
                self.assertFalse(path.stem.startswith(("law_", "test")), path)
                self.assertNotIn(path.stem, dir(builtins))

    def test_sizes_and_signs(self):
        for name, text in self.texts.items():
            lines = text.split("\n")
            self.assertLessEqual(len(lines), 399, name)
            self.assertTrue(text.endswith("\n"), name)
            for number, line in enumerate(lines, 1):
                self.assertLessEqual(len(line), 120, f"{name}:{number}")
                self.assertRegex(line, r"\A[ -~]*\Z", f"{name}:{number}")
        for name, tree in self.trees.items():
            for function in functions_of(tree):
                self.assertLessEqual(function.end_lineno - function.lineno + 1, 40, f"{name}: {function.name}")

    def test_statements_and_expressions(self):
        for place, node in self.each_node():
            self.assertNotIsInstance(node, BARRED_NODES, place)
            self.assertFalse(getattr(node, "decorator_list", []), place)
            self.assertFalse(getattr(node, "returns", None), place)
            if isinstance(node, ast.Constant):
                self.assertNotIsInstance(node.value, (float, complex, bytes), place)
            if isinstance(node, ast.Compare) and any(isinstance(op, (ast.Is, ast.IsNot)) for op in node.ops):
                self.assertIn(ast.unparse(node.comparators[0]), ("None", "True", "False"), place)
            if isinstance(node, ast.BinOp) and isinstance(node.op, ast.Pow):
                self.assertIsInstance(node.right, ast.Constant, place)
            if isinstance(node, ast.Raise):
                self.assertIsInstance(node.exc, ast.Call, place)
                self.assertRegex(ast.unparse(node.exc.func), r"\A[A-Z]\w*\Z", place)

    def test_python_gives_no_warning(self):
        with warnings.catch_warnings():
            warnings.simplefilter("error")
            for name, text in self.texts.items():
                compile(text, name, "exec")

    def test_module_level(self):
        for name, tree in self.trees.items():
            allowed = (ast.Expr, ast.ImportFrom, ast.FunctionDef, ast.ClassDef, ast.Assign)
            for at, node in enumerate(tree.body):
                self.assertIsInstance(node, allowed, name)
                if isinstance(node, ast.Expr):
                    self.assertEqual(at, 0, name)
                if isinstance(node, ast.Assign):
                    self.assertEqual([type(target) for target in node.targets], [ast.Name], name)
            names = module_names(tree)
            self.assertEqual(len(names), len(set(names)), name)

    def test_imports(self):
        needs = {}
        for name, tree in self.trees.items():
            found = [node for node in ast.walk(tree) if isinstance(node, ast.ImportFrom)]
            self.assertEqual(found, [node for node in tree.body if isinstance(node, ast.ImportFrom)], name)
            needs[name] = []
            for node in found:
                self.assertRegex(node.module, r"\Apackedseats\.[a-z]+\Z", name)
                self.assertEqual(node.level, 0, name)
                file = node.module.split(".")[1] + ".py"
                needs[name].append(file)
                for alias in node.names:
                    self.assertIsNone(alias.asname, name)
                    own = [part for part in self.trees[file].body if not isinstance(part, ast.ImportFrom)]
                    self.assertIn(alias.name, module_names(ast.Module(own, [])), name)
        self.check_no_ring(needs)

    def test_each_import_is_used(self):
        for name, tree in self.trees.items():
            imports = {alias.name for node in tree.body if isinstance(node, ast.ImportFrom) for alias in node.names}
            used = {node.id for node in ast.walk(tree) if isinstance(node, ast.Name)}
            self.assertFalse(imports - used, name)

    def check_no_ring(self, needs):
        left = dict(needs)
        while left:
            free = [name for name in left if not any(file in left for file in left[name])]
            self.assertTrue(free, f"files import each other: {sorted(left)}")
            for name in free:
                del left[name]

    def test_names(self):
        for name, tree in self.trees.items():
            outer = module_names(tree)
            classes = [node.name for node in tree.body if isinstance(node, ast.ClassDef)]
            imports = [alias.name for node in tree.body if isinstance(node, ast.ImportFrom) for alias in node.names]
            for function in functions_of(tree):
                names = bound_names(function)
                self.check_plain([function.name], name)
                self.check_plain(names, name)
                self.assertFalse(set(names) & set(classes + imports), f"{name}: {function.name}")
            self.check_plain(outer, name)
            for node in ast.walk(tree):
                if isinstance(node, ast.Name) and isinstance(node.ctx, ast.Load):
                    known = outer + [part for function in functions_of(tree) for part in bound_names(function)]
                    self.assertTrue(node.id in known or node.id in BUILTINS, f"{name}:{node.lineno} {node.id}")

    def check_plain(self, names, place):
        for name in names:
            if name not in SPECIAL_METHODS and name != "_":
                self.assertRegex(name, r"\A_?[A-Za-z][A-Za-z0-9_]*\Z", place)
                self.assertNotIn(name, dir(builtins), place)
                self.assertNotIn(name, UNUSED_NAMES, place)

    def test_methods_and_attributes(self):
        own = {function.name for tree in self.trees.values() for function in functions_of(tree)}
        for place, node in self.each_node():
            if isinstance(node, ast.Attribute):
                called = node.attr in METHODS | own | {"__init__"}
                self.assertTrue(called or re.fullmatch(r"_?[a-z]+(_[a-z]+)*", node.attr), place)
                self.assertNotEqual(node.attr, "sort", place)
            if isinstance(node, ast.Call) and isinstance(node.func, ast.Attribute):
                self.assertIn(node.func.attr, METHODS | own, place)
            if isinstance(node, ast.ClassDef):
                defined = [part.name for part in node.body if isinstance(part, ast.FunctionDef)]
                self.assertEqual(len(defined), len(set(defined)), place)
                special = {part for part in defined if part.startswith("__")}
                self.assertLessEqual(special, SPECIAL_METHODS, place)

    def test_strings(self):
        for name, tree in self.trees.items():
            told = docstrings_of(tree)
            for node in ast.walk(tree):
                if isinstance(node, ast.Constant) and isinstance(node.value, str):
                    self.assertNotIn("%", node.value, name)
                    self.assertRegex(node.value, r"\A[ -~\n\t]*\Z", name)
                    if node not in told:
                        self.assertNotRegex(node.value, BARRED_WORDS, name)
            words = "\n".join(re.sub(r"#.*", "", line) for line in self.texts[name].split("\n"))
            for text in told:
                words = words.replace(text.value, "")
            self.assertNotRegex(words, BARRED_WORDS, name)

    def test_what_is_iterated_at_once(self):
        for name, tree in self.trees.items():
            parents = parents_of(tree)
            for node in ast.walk(tree):
                if not isinstance(node, ast.Call):
                    continue
                called = ast.unparse(node.func)
                is_view = isinstance(node.func, ast.Attribute) and node.func.attr in VIEWS
                if called in ITERATED_ON_THE_SPOT or is_view:
                    self.check_iterated(parents[node], node, f"{name}:{node.lineno}")

    def check_iterated(self, parent, node, place):
        if isinstance(parent, (ast.For, ast.comprehension)):
            self.assertIs(parent.iter, node, place)
        else:
            self.assertIsInstance(parent, ast.Call, place)
            self.assertIn(ast.unparse(parent.func), TAKE_ITERABLES, place)

    def test_sets(self):
        for name, tree in self.trees.items():
            parents = parents_of(tree)
            for node in ast.walk(tree):
                made = isinstance(node, ast.Call) and ast.unparse(node.func) == "set"
                if made or isinstance(node, (ast.Set, ast.SetComp)):
                    self.check_set(parents[node], f"{name}:{node.lineno}")

    def check_set(self, parent, place):
        if isinstance(parent, ast.Call):
            self.assertIn(ast.unparse(parent.func), ("sorted", "len"), place)
        else:
            self.assertIsInstance(parent, (ast.Assign, ast.Compare), place)


if __name__ == "__main__":
    unittest.main()
