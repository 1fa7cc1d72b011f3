"""Rules of LANGUAGE.md that can be seen in the code alone; narrower in places: what the package does not use yet."""

import ast
import builtins
import pathlib
import re
import unittest
import warnings

PACKAGE = pathlib.Path(__file__).resolve().parent.parent / "waitmark"
FILES = sorted(path for path in PACKAGE.rglob("*") if "__pycache__" not in path.parts)

BUILTINS = set("""len range enumerate zip min max sum abs sorted reversed int str bool bytes list tuple dict set
    isinstance ord repr any all divmod pow iter next getattr hasattr setattr Exception ValueError TypeError KeyError
    IndexError LookupError ZeroDivisionError ArithmeticError OverflowError RuntimeError NotImplementedError
    AttributeError StopIteration NotImplemented""".split())
LIBRARY = {
    "heapq": {"heappush", "heappop", "heapify", "heapreplace", "heappushpop"},
    "math": {"gcd", "lcm", "isqrt", "comb", "perm", "factorial"},
    "itertools": {"product", "combinations", "permutations", "chain", "accumulate", "pairwise", "islice",
                  "zip_longest"},
    "collections": {"defaultdict"},
}
METHODS = set("""append clear copy count endswith extend find get index insert isalnum isalpha isdigit islower isspace
    isupper items join keys ljust lower lstrip partition pop remove replace reverse rfind rjust rpartition rsplit rstrip
    setdefault split splitlines startswith strip update upper values zfill bit_length sort add discard title capitalize
    swapcase casefold removeprefix removesuffix rindex isascii isdecimal isnumeric isidentifier isprintable""".split())
BARRED_EVERYWHERE = {"register", "mro", "elements", "open", "input", "law", "version_info", "with_traceback", "add_note"}
BARRED_NAMES = set("""attrgetter breakpoint builtins compile copyright credits delattr dir eval exec exit gc globals help
    id importlib license locals methodcaller os quit super type vars sys""".split())
BARRED_WORDS = re.compile(r"\b(type|typing|typing_extensions|enum|Enum|IntEnum|StrEnum|Flag|IntFlag|Generic|Protocol|ABC"
                          r"|ABCMeta|namedtuple|NamedTuple|TypedDict|TYPE_CHECKING|abstractmethod)\b"
                          r"|dataclass|overload|contextmanager|_wall|_WallAttr")
DOUBLES = {"__init__", "__eq__", "__repr__", "__str__", "__len__"}
NOT_HERE = (ast.Global, ast.AsyncFunctionDef, ast.AsyncFor, ast.AsyncWith, ast.Await, ast.Div, ast.MatMult,
            ast.TypeIgnore, ast.Set, ast.GeneratorExp)


def sources():
    return [(path, path.read_text(encoding="utf-8")) for path in FILES if path.suffix == ".py"]


def trees():
    return [(path, ast.parse(text)) for path, text in sources()]


def module_name(path):
    parts = path.relative_to(PACKAGE.parent).with_suffix("").parts
    return ".".join(parts[:-1] if parts[-1] == "__init__" else parts)


def docstrings(tree):
    """The strings that are docstrings, by where they stand."""
    found = set()
    for node in ast.walk(tree):
        if isinstance(node, (ast.Module, ast.ClassDef, ast.FunctionDef)) and ast.get_docstring(node) is not None:
            found.add(id(node.body[0].value))
    return found


def bound(tree):
    """Every name that is bound anywhere, but imports: (name, node)."""
    for node in ast.walk(tree):
        if isinstance(node, (ast.FunctionDef, ast.ClassDef)):
            yield node.name, node
        elif isinstance(node, ast.arg):
            yield node.arg, node
        elif isinstance(node, ast.Name) and isinstance(node.ctx, ast.Store):
            yield node.id, node
        elif isinstance(node, ast.ExceptHandler) and node.name:
            yield node.name, node


class TestFiles(unittest.TestCase):

    def test_only_plain_files(self):
        for path in FILES:
            self.assertTrue(path.is_dir() or path.suffix == ".py", path)
            self.assertRegex(path.stem, r"^([a-z][a-z0-9_]*|__init__|__main__)$")
            self.assertNotIn(path.stem, dir(builtins))
            self.assertNotRegex(path.stem, r"^(law_.*|tests?|testing|test_.*|site|conftest|heapq|math|itertools)$")
            if path.is_dir():
                self.assertTrue((path / "__init__.py").is_file(), path)
                self.assertFalse(path.with_suffix(".py").exists(), path)
        self.assertLessEqual(len(sources()), 100)

    def test_sizes_and_characters(self):
        for path, text in sources():
            self.assertRegex(text, r"\A[ -~\n]*\Z", path)
            self.assertLessEqual(len(text.splitlines()), 399, path)
            for line in text.splitlines():
                self.assertLessEqual(len(line), 120, (path, line))

    def test_python_gives_no_warning(self):
        for path, text in sources():
            with warnings.catch_warnings():
                warnings.simplefilter("error")
                compile(text, str(path), "exec")

    def test_no_function_above_forty_lines(self):
        for path, tree in trees():
            for node in ast.walk(tree):
                if isinstance(node, ast.FunctionDef):
                    self.assertLessEqual(node.end_lineno - node.lineno + 1, 40, (path, node.name))


class TestImports(unittest.TestCase):

    def test_only_from_the_package_by_the_very_file(self):
        names = {module_name(path): {name for name, _ in bound(tree)} for path, tree in trees()}
        for path, tree in trees():
            for node in ast.walk(tree):
                self.assertNotIsInstance(node, ast.Import, path)
                if not isinstance(node, ast.ImportFrom):
                    continue
                self.assertIn(node, tree.body, path)
                self.assertEqual(node.level, 0, path)
                for part in node.names:
                    if node.module in LIBRARY:
                        self.assertIn(part.name, LIBRARY[node.module], path)
                        self.assertIsNone(part.asname, path)
                    elif node.module != "__future__":
                        self.assertIn(part.name, names[node.module], path)

    def test_no_two_files_import_from_each_other(self):
        asks = {module_name(path): {node.module for node in tree.body if isinstance(node, ast.ImportFrom)}
                for path, tree in trees()}
        for start in asks:
            seen, ahead = set(), list(asks[start])
            while ahead:
                place = ahead.pop()
                if place not in seen:
                    seen.add(place)
                    ahead.extend(asks.get(place, ()))
            self.assertNotIn(start, seen)

    def test_every_import_is_used(self):
        for path, tree in trees():
            used = {node.id for node in ast.walk(tree) if isinstance(node, ast.Name)}
            for node in tree.body:
                if isinstance(node, ast.ImportFrom):
                    for part in node.names:
                        self.assertIn(part.asname or part.name, used, path)


class TestNames(unittest.TestCase):

    def test_no_name_with_another_meaning(self):
        for path, tree in trees():
            taken = {part.asname or part.name for node in tree.body if isinstance(node, ast.ImportFrom)
                     for part in node.names}
            taken |= {node.name for node in tree.body if isinstance(node, ast.ClassDef)}
            methods = {id(part) for node in ast.walk(tree) if isinstance(node, ast.ClassDef) for part in node.body}
            for name, node in bound(tree):
                where = (path, name)
                self.assertNotIn(name, BARRED_EVERYWHERE | BARRED_NAMES, where)
                self.assertTrue(name == "_" or name in DOUBLES or re.match(r"^_?[A-Za-z][A-Za-z0-9_]*$", name), where)
                if id(node) not in methods:
                    # A run of README.md's examples leaves a "_" among the builtins.
                    self.assertTrue(name == "_" or not hasattr(builtins, name), where)
                    if not isinstance(node, ast.ClassDef):
                        self.assertNotIn(name, taken, where)

    def test_only_these_builtins(self):
        for path, tree in trees():
            known = {name for name, _ in bound(tree)} | {part.name for node in tree.body
                                                         if isinstance(node, ast.ImportFrom) for part in node.names}
            for node in ast.walk(tree):
                if isinstance(node, ast.Name) and node.id not in known:
                    self.assertIn(node.id, BUILTINS, path)

    def test_only_own_attributes_and_these_methods(self):
        own, kept = set(), set()
        for _, tree in trees():
            for node in ast.walk(tree):
                if isinstance(node, ast.ClassDef):
                    own |= {part.name for part in node.body if isinstance(part, ast.FunctionDef)}
                if isinstance(node, ast.Attribute) and isinstance(node.ctx, ast.Store):
                    kept.add(node.attr)
        for path, tree in trees():
            called = {id(node.func) for node in ast.walk(tree) if isinstance(node, ast.Call)}
            for node in ast.walk(tree):
                if isinstance(node, ast.Attribute):
                    allowed = own | METHODS if id(node) in called else kept
                    self.assertIn(node.attr, allowed | {"__init__"}, path)
                    self.assertNotIn(node.attr, BARRED_EVERYWHERE, path)

    def test_a_lone_underscore_is_never_read(self):
        for path, tree in trees():
            for node in ast.walk(tree):
                if isinstance(node, ast.Name) and node.id == "_":
                    self.assertIsInstance(node.ctx, ast.Store, path)


class TestStatements(unittest.TestCase):

    def test_nothing_outside_the_subset(self):
        for path, tree in trees():
            for node in ast.walk(tree):
                self.assertNotIsInstance(node, NOT_HERE, (path, getattr(node, "lineno", 0)))
                if isinstance(node, (ast.FunctionDef, ast.ClassDef)):
                    self.assertEqual(node.decorator_list, [], (path, node.name))
                if isinstance(node, ast.Compare) and any(isinstance(op, (ast.Is, ast.IsNot)) for op in node.ops):
                    self.assertTrue(all(isinstance(part, ast.Constant) for part in node.comparators), path)
                if isinstance(node, ast.Raise) and node.exc is not None:
                    self.assertIsInstance(node.exc, ast.Call, path)

    def test_module_level(self):
        for path, tree in trees():
            names = [name for node in tree.body for name in self.bound_by(node)]
            self.assertEqual(len(names), len(set(names)), path)
            for at, node in enumerate(tree.body):
                plain = isinstance(node, (ast.ImportFrom, ast.FunctionDef, ast.ClassDef, ast.Assign))
                self.assertTrue(plain or (at == 0 and id(node.value) in docstrings(tree)), path)
                if isinstance(node, ast.Assign):
                    self.assertEqual(len(node.targets), 1, path)
                    self.assertIsInstance(node.targets[0], ast.Name, path)
                    ast.literal_eval(node.value)

    def bound_by(self, node):
        if isinstance(node, ast.ImportFrom):
            return [part.asname or part.name for part in node.names]
        if isinstance(node, ast.Assign):
            return [target.id for target in node.targets]
        return [node.name] if isinstance(node, (ast.FunctionDef, ast.ClassDef)) else []

    def test_strings_and_numbers(self):
        for path, tree in trees():
            told = docstrings(tree)
            for node in ast.walk(tree):
                if not isinstance(node, ast.Constant):
                    continue
                self.assertNotIsInstance(node.value, (float, complex, bytes), path)
                self.assertIsNot(node.value, Ellipsis, path)
                if isinstance(node.value, str):
                    self.assertNotIn("%", node.value, path)
                    if id(node) not in told:
                        self.assertIsNone(BARRED_WORDS.search(node.value), path)

    def test_words_that_are_barred(self):
        for path, tree in trees():
            for name, node in bound(tree):
                self.assertIsNone(BARRED_WORDS.search(name), (path, name))

    def test_defaults_are_plain(self):
        for path, tree in trees():
            for node in ast.walk(tree):
                if isinstance(node, ast.arguments):
                    for worth in node.defaults + [part for part in node.kw_defaults if part is not None]:
                        plain = isinstance(worth, ast.Tuple) and worth.elts == []
                        self.assertTrue(plain or isinstance(worth, (ast.Constant, ast.Name)), path)


if __name__ == "__main__":
    unittest.main()
