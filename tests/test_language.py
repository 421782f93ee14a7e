"""The form of the package's files: what can be seen of the rules in LANGUAGE.md, held somewhat narrower."""

import ast
import builtins
import os
import unittest

FOLDER = os.path.join(os.path.dirname(os.path.dirname(os.path.abspath(__file__))), "objections")
CALLED = """len range enumerate zip min max sum abs sorted reversed int str bool list tuple dict set isinstance ord
repr any all divmod ValueError TypeError KeyError""".split()
METHODS = """append clear copy count endswith extend find get index insert isalnum isalpha isdigit islower isspace
isupper items join keys ljust lower lstrip partition pop remove replace reverse rfind rjust rpartition rsplit rstrip
setdefault split splitlines startswith strip update upper values zfill bit_length""".split()
BARRED_NAMES = """register mro elements open input law version_info with_traceback add_note attrgetter breakpoint
builtins compile copyright credits delattr dir eval exec exit gc getattr globals hasattr help id importlib license
locals methodcaller os quit setattr super type vars sys _cold _outside _record map next iter""".split()
BARRED_WORDS = """type typing typing_extensions enum Enum IntEnum StrEnum Flag IntFlag Generic Protocol ABC ABCMeta
namedtuple NamedTuple TypedDict TYPE_CHECKING abstractmethod""".split()
BARRED_NODES = (
    ast.AsyncFunctionDef, ast.AsyncFor, ast.AsyncWith, ast.Await, ast.Global, ast.Nonlocal, ast.Yield, ast.YieldFrom,
    ast.GeneratorExp, ast.Div, ast.MatMult, ast.ExceptHandler, ast.With, ast.Match, ast.AnnAssign, ast.NamedExpr,
    ast.Delete,
)
LIBRARY = {"heapq": ["heappop", "heappush"], "math": ["gcd"], "itertools": ["combinations", "permutations"]}
ON_THE_SPOT = ("zip", "enumerate", "reversed", "range", "items", "keys", "values")
TAKERS = ("list", "tuple", "dict", "sorted", "sum", "any", "all", "enumerate", "zip", "min", "max",
          "combinations")


def read_files():
    """Each file's name, text and tree."""
    found = {}
    for name in sorted(os.listdir(FOLDER)):
        if name != "__pycache__":
            with open(os.path.join(FOLDER, name), encoding="ascii") as file:
                text = file.read()
            found[name] = (text, ast.parse(text))
    return found


FILES = read_files()


def functions(tree):
    return [node for node in ast.walk(tree) if isinstance(node, ast.FunctionDef)]


def own_methods():
    """The names of all methods of the package's classes."""
    return {
        node.name for _, tree in FILES.values() for kind in tree.body if isinstance(kind, ast.ClassDef)
        for node in kind.body if isinstance(node, ast.FunctionDef)
    }


def called(node):
    """The name by which something is called."""
    if isinstance(node, ast.Call):
        return getattr(node.func, "id", getattr(node.func, "attr", None))
    return None


def docstrings(tree):
    found = set()
    for node in ast.walk(tree):
        if isinstance(node, (ast.Module, ast.ClassDef, ast.FunctionDef)) and node.body:
            if isinstance(node.body[0], ast.Expr) and isinstance(node.body[0].value, ast.Constant):
                found.add(id(node.body[0].value))
    return found


class TestFiles(unittest.TestCase):
    def test_files_are_plain(self):
        self.assertLessEqual(len(FILES), 100)
        self.assertIn("__init__.py", FILES)
        for name, (text, tree) in FILES.items():
            self.assertRegex(name, r"^[a-z_]+\.py$")
            self.assertRegex(text, r"^[ -~\n]*\n$")
            lines = text.split("\n")
            self.assertLessEqual(len(lines) - 1, 399, name)
            self.assertLessEqual(max(len(line) for line in lines), 120, name)
            for node in functions(tree):
                self.assertLessEqual(node.end_lineno - node.lineno + 1, 40, (name, node.name))
                self.assertIsNone(node.returns)

    def test_imports(self):
        graph = {}
        for name, (_, tree) in FILES.items():
            graph[name] = []
            behind = False
            for node in tree.body:
                is_import = isinstance(node, (ast.Import, ast.ImportFrom))
                self.assertFalse(behind and is_import, name)
                behind = behind or not is_import and not isinstance(node, ast.Expr)
            for node in ast.walk(tree):
                self.assertNotIsInstance(node, ast.Import)
                if isinstance(node, ast.ImportFrom) and node.module in LIBRARY:
                    for alias in node.names:
                        self.assertIn(alias.name, LIBRARY[node.module])
                        self.assertIsNone(alias.asname)
                        self.check_library_name(tree, alias.name)
                elif isinstance(node, ast.ImportFrom):
                    self.assertRegex(node.module, r"^objections\.[a-z]+$")
                    self.assertEqual(node.level, 0)
                    source = node.module.split(".")[1] + ".py"
                    graph[name].append(source)
                    defined = [getattr(part, "name", None) for part in FILES[source][1].body]
                    defined += [part.targets[0].id for part in FILES[source][1].body if isinstance(part, ast.Assign)]
                    for alias in node.names:
                        self.assertIsNone(alias.asname)
                        self.assertIn(alias.name, defined, name)
        done = set()
        while len(done) < len(graph):
            free = [name for name in graph if name not in done and all(source in done for source in graph[name])]
            self.assertTrue(free, "files import from each other")
            done.update(free)

    def check_library_name(self, tree, word):
        """Whether a name of the library is only called, with all arguments by position."""
        calls = {id(node.func): node for node in ast.walk(tree) if isinstance(node, ast.Call)}
        for node in ast.walk(tree):
            if isinstance(node, ast.Name) and node.id == word:
                self.assertEqual(calls[id(node)].keywords, [])

    def test_each_import_is_used_and_stands_once(self):
        for name, (_, tree) in FILES.items():
            brought = [alias.name for node in tree.body if isinstance(node, ast.ImportFrom) for alias in node.names]
            made = [node.name for node in tree.body if isinstance(node, (ast.FunctionDef, ast.ClassDef))]
            made += [target.id for node in tree.body if isinstance(node, ast.Assign) for target in node.targets]
            self.assertEqual(len(brought + made), len(set(brought + made)), name)
            used = {node.id for node in ast.walk(tree) if isinstance(node, ast.Name)}
            for word in brought:
                self.assertIn(word, used, name)

    def test_module_level(self):
        for name, (_, tree) in FILES.items():
            for node in tree.body:
                self.assertIsInstance(
                    node, (ast.Expr, ast.ImportFrom, ast.FunctionDef, ast.ClassDef, ast.Assign), name)
                if isinstance(node, ast.Assign):
                    self.assertEqual(len(node.targets), 1)
                    ast.literal_eval(node.value)
                if isinstance(node, ast.Expr):
                    self.assertIsInstance(node.value.value, str)

    def test_lists_and_dicts_at_module_level_are_only_read(self):
        for name, (_, tree) in FILES.items():
            for row in [node for node in tree.body if isinstance(node, ast.Assign)]:
                if isinstance(row.value, (ast.Dict, ast.List)):
                    word = row.targets[0].id
                    right = 0
                    for node in ast.walk(tree):
                        if isinstance(node, ast.Subscript) and getattr(node.value, "id", None) == word:
                            right += isinstance(node.ctx, ast.Load)
                        if isinstance(node, ast.Compare) and isinstance(node.ops[0], (ast.In, ast.NotIn)):
                            right += getattr(node.comparators[0], "id", None) == word
                    uses = [node for node in ast.walk(tree) if getattr(node, "id", None) == word]
                    self.assertEqual(len(uses), right + 1, (name, word))


class TestCode(unittest.TestCase):
    def test_only_plain_statements(self):
        for name, (_, tree) in FILES.items():
            for node in ast.walk(tree):
                self.assertNotIsInstance(node, BARRED_NODES, (name, getattr(node, "lineno", 0)))
                if isinstance(node, (ast.FunctionDef, ast.ClassDef)):
                    self.assertEqual(node.decorator_list, [])
                if isinstance(node, (ast.FunctionDef, ast.Lambda)):
                    self.assertIsNone(node.args.vararg or node.args.kwarg)
                if isinstance(node, ast.Compare) and isinstance(node.ops[0], (ast.Is, ast.IsNot)):
                    self.assertIn(getattr(node.comparators[0], "value", 0), (None, True, False))
                if isinstance(node, ast.BinOp):
                    self.assertNotIsInstance(node.op, (ast.Mod, ast.Pow))
                if isinstance(node, ast.Raise):
                    self.assertIsInstance(node.exc, ast.Call)

    def test_what_is_done_at_last_is_plain(self):
        """Behind "finally" attributes are given names that stood ahead of the try, and nothing else."""
        for name, (_, tree) in FILES.items():
            for part in functions(tree):
                for turn, node in enumerate(part.body):
                    if isinstance(node, ast.Try):
                        self.assertEqual(node.orelse, [])
                        ahead = {row.targets[0].id for row in part.body[:turn] if isinstance(row, ast.Assign)}
                        for row in node.finalbody:
                            self.assertIsInstance(row, ast.Assign, name)
                            self.assertIsInstance(row.targets[0], ast.Attribute)
                            self.assertIn(row.value.id, ahead)

    def test_names(self):
        barred = set(BARRED_NAMES) | {word for word in vars(builtins)}
        for name, (_, tree) in FILES.items():
            fixed = {alias.name for node in tree.body if isinstance(node, ast.ImportFrom) for alias in node.names}
            fixed |= {node.name for node in tree.body if isinstance(node, ast.ClassDef)}
            made = []
            for node in ast.walk(tree):
                if isinstance(node, ast.Name) and isinstance(node.ctx, ast.Store):
                    made.append(node.id)
                if isinstance(node, ast.arg):
                    made.append(node.arg)
                if isinstance(node, ast.FunctionDef) and not node.name.startswith("__"):
                    made.append(node.name)
            for word in made:
                self.assertNotIn(word, barred, name)
                self.assertNotIn(word, fixed, name)
                self.assertFalse(word.startswith("__"))

    def test_builtins(self):
        for name, (_, tree) in FILES.items():
            for node in ast.walk(tree):
                if isinstance(node, ast.Name) and node.id in vars(builtins):
                    self.assertIn(node.id, CALLED, (name, node.lineno))

    def test_methods(self):
        right = set(METHODS) | own_methods()
        for name, (_, tree) in FILES.items():
            for node in ast.walk(tree):
                if isinstance(node, ast.Call) and isinstance(node.func, ast.Attribute):
                    self.assertIn(node.func.attr, right, (name, node.lineno))
                    self.assertEqual(node.keywords, [])

    def test_words(self):
        for name, (_, tree) in FILES.items():
            told = docstrings(tree)
            for node in ast.walk(tree):
                if isinstance(node, ast.Constant) and isinstance(node.value, str) and id(node) not in told:
                    self.assertNotIn("%", node.value)
                    self.assertFalse(set(node.value.split()) & set(BARRED_WORDS), name)
                self.assertNotIsInstance(getattr(node, "value", None), float)

    def test_classes(self):
        for name, (_, tree) in FILES.items():
            for node in [part for part in ast.walk(tree) if isinstance(part, ast.ClassDef)]:
                self.assertIn(node, tree.body)
                for part in node.body:
                    if isinstance(part, ast.FunctionDef) and part.name.startswith("__"):
                        self.assertIn(part.name, ("__init__", "__eq__", "__len__"))
                        inner = [one for one in ast.walk(part) if isinstance(one, ast.Lambda)]
                        self.assertEqual(inner, [])

    def test_sets_are_only_sorted_or_measured(self):
        for name, (_, tree) in FILES.items():
            right = set()
            for node in ast.walk(tree):
                if called(node) in ("sorted", "len") and not node.keywords:
                    right.add(id(node.args[0]))
                if isinstance(node, ast.Compare) and isinstance(node.ops[0], (ast.In, ast.NotIn)):
                    right.add(id(node.comparators[0]))
            for node in ast.walk(tree):
                if isinstance(node, (ast.Set, ast.SetComp)) or called(node) == "set":
                    self.assertIn(id(node), right, (name, node.lineno))

    def test_iterated_on_the_spot(self):
        for name, (_, tree) in FILES.items():
            right = set()
            for node in ast.walk(tree):
                if isinstance(node, (ast.For, ast.comprehension)):
                    right.add(id(node.iter))
                if isinstance(node, ast.Call) and called(node) in TAKERS and node.args:
                    right.update(id(part) for part in node.args[:1 if called(node) != "zip" else None])
                if called(node) == "reversed" and called(node.args[0]) == "range":
                    right.add(id(node.args[0]))
            for node in ast.walk(tree):
                if called(node) in ON_THE_SPOT:
                    self.assertIn(id(node), right, (name, node.lineno))

    def test_what_is_gone_over_is_not_changed(self):
        for name, (_, tree) in FILES.items():
            for loop in [node for node in ast.walk(tree) if isinstance(node, ast.For)]:
                over = {node.id for node in ast.walk(loop.iter) if isinstance(node, ast.Name)}
                for node in [part for row in loop.body for part in ast.walk(row)]:
                    if called(node) in ("append", "extend", "pop", "clear", "remove", "insert", "update"):
                        self.assertNotIn(getattr(node.func.value, "id", None), over, (name, node.lineno))
                    if isinstance(node, ast.Subscript) and isinstance(node.ctx, ast.Store):
                        self.assertNotIn(getattr(node.value, "id", None), over, (name, node.lineno))
