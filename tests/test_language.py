"""The rules of ../shared/LANGUAGE.md that can be seen in the text of the package's files."""

import ast
import re
import unittest
import warnings
from pathlib import Path

PACKAGE = Path(__file__).resolve().parent.parent / "risefall"

BUILTINS = set(
    "len range enumerate zip min max sum abs sorted reversed int str bool list tuple dict set "
    "isinstance ord repr any all divmod pow getattr hasattr setattr iter next map super property "
    "staticmethod classmethod object Exception ValueError TypeError KeyError IndexError LookupError "
    "ZeroDivisionError ArithmeticError OverflowError RuntimeError NotImplementedError "
    "AttributeError StopIteration NotImplemented".split()
)
LIBRARY = {
    "heapq": {"heappush", "heappop", "heapify", "heapreplace", "heappushpop"},
    "math": {"gcd", "lcm", "isqrt", "comb", "perm", "factorial"},
    "itertools": {"product", "combinations", "permutations", "chain", "accumulate", "pairwise",
                  "islice", "zip_longest"},
    "collections": {"defaultdict"},
}
METHODS = set(
    "append clear copy count endswith extend find get index insert isalnum isalpha isdigit islower "
    "isspace isupper items join keys ljust lower lstrip partition pop remove replace reverse rfind "
    "rjust rpartition rsplit rstrip setdefault split splitlines startswith strip update upper "
    "values zfill bit_length sort".split()
)
BARRED = (
    ast.AsyncFunctionDef, ast.AsyncFor, ast.AsyncWith, ast.Await, ast.Global, ast.Div, ast.MatMult,
    ast.Import, ast.AnnAssign, ast.TryStar,
)
BARRED_WORDS = (
    "type typing typing_extensions enum Enum IntEnum StrEnum Flag Generic Protocol ABC ABCMeta "
    "namedtuple NamedTuple TypedDict TYPE_CHECKING abstractmethod dataclass overload "
    "contextmanager register mro elements open input law version_info eval exec compile globals "
    "locals vars dir id hash exit quit type format print chr bytes".split()
)
DEFINED = {
    "errors.py": {"RiseError", "BadWord", "BadNumber", "BadOrder", "BadRow"},
    "words.py": {"count", "word_of"},
    "orders.py": {"order_of", "number_of"},
    "answers.py": {"Zigzag"},
    "zigzag.py": {"longest"},
}


def files():
    return sorted(PACKAGE.rglob("*.py"))


def trees():
    return [(path.name, ast.parse(path.read_text(encoding="ascii"))) for path in files()]


def is_docstring(node):
    return isinstance(node, ast.Expr) and isinstance(node.value, ast.Constant) and isinstance(
        node.value.value, str)


def plain(node):
    if isinstance(node, ast.UnaryOp):
        return plain(node.operand)
    if isinstance(node, (ast.List, ast.Tuple)):
        return all(plain(item) for item in node.elts)
    if isinstance(node, ast.Dict):
        return all(plain(item) for item in node.keys + node.values)
    return isinstance(node, (ast.Constant, ast.Name))


def bound_names(tree):
    found = set()
    for node in ast.walk(tree):
        if isinstance(node, (ast.FunctionDef, ast.ClassDef)):
            found.add(node.name)
        elif isinstance(node, ast.arg):
            found.add(node.arg)
        elif isinstance(node, ast.Name) and not isinstance(node.ctx, ast.Load):
            found.add(node.id)
        elif isinstance(node, ast.ImportFrom):
            found.update(alias.name for alias in node.names)
    return found


class Files(unittest.TestCase):
    def test_the_folder_holds_plainly_named_files_alone(self):
        self.assertTrue((PACKAGE / "__init__.py").is_file())
        for path in PACKAGE.rglob("*"):
            if "__pycache__" not in path.parts:
                self.assertTrue(path.is_dir() or re.fullmatch(r"[a-z0-9_]+\.py", path.name), path)

    def test_signs_and_sizes(self):
        for path in files():
            data = path.read_bytes()
            self.assertTrue(all(code == 10 or 32 <= code <= 126 for code in data), path.name)
            lines = data.decode("ascii").split("\n")
            self.assertLessEqual(len(lines), 400, path.name)
            self.assertLessEqual(max(len(line) for line in lines), 120, path.name)

    def test_python_gives_no_warning(self):
        for path in files():
            with warnings.catch_warnings():
                warnings.simplefilter("error")
                compile(path.read_text(encoding="ascii"), str(path), "exec")


class Code(unittest.TestCase):
    def test_no_barred_statement_sign_or_number(self):
        for name, tree in trees():
            for node in ast.walk(tree):
                self.assertNotIsInstance(node, BARRED, name)
                if isinstance(node, ast.Constant):
                    self.assertNotIsInstance(node.value, (float, complex), name)
                    self.assertNotIn("%", str(node.value), name)

    def test_imports_stand_on_top_and_bring_allowed_names(self):
        for name, tree in trees():
            behind = [node for node in tree.body if not is_docstring(node)]
            while behind and isinstance(behind[0], ast.ImportFrom):
                del behind[0]
            for node in behind:
                for inner in ast.walk(node):
                    self.assertNotIsInstance(inner, ast.ImportFrom, name)
            for node in tree.body:
                if isinstance(node, ast.ImportFrom):
                    names = {alias.name for alias in node.names}
                    self.assertEqual(node.level, 0, name)
                    self.assertTrue(all(alias.asname is None for alias in node.names), name)
                    if node.module in LIBRARY:
                        self.assertLessEqual(names, LIBRARY[node.module], name)
                    else:
                        self.assertRegex(node.module, r"\Arisefall\.[a-z0-9_.]+\Z", name)
                        self.assertNotIn("*", names, name)

    def test_an_import_names_the_file_that_defines_the_name(self):
        defined = {name: {node.name for node in tree.body
                          if isinstance(node, (ast.FunctionDef, ast.ClassDef))}
                   for name, tree in trees()}
        for name, tree in trees():
            for node in tree.body:
                if isinstance(node, ast.ImportFrom) and node.module not in LIBRARY:
                    source = node.module.removeprefix("risefall.") + ".py"
                    self.assertLessEqual({alias.name for alias in node.names}, defined[source], name)

    def test_module_level_holds_definitions_and_plain_values_alone(self):
        for name, tree in trees():
            for node in tree.body:
                if isinstance(node, ast.Assign):
                    self.assertTrue(plain(node.value), name)
                else:
                    self.assertTrue(is_docstring(node) or isinstance(
                        node, (ast.ImportFrom, ast.FunctionDef, ast.ClassDef)), name)

    def test_functions_are_short(self):
        for name, tree in trees():
            for node in ast.walk(tree):
                if isinstance(node, ast.FunctionDef):
                    self.assertLessEqual(node.end_lineno - node.lineno + 1, 40, node.name)

    def test_only_allowed_builtins_and_methods_are_read(self):
        for name, tree in trees():
            bound = bound_names(tree)
            self.assertEqual(bound & BUILTINS, set(), name)
            own = {each.attr for each in ast.walk(tree)
                   if isinstance(each, ast.Attribute) and isinstance(each.ctx, ast.Store)}
            own |= {each.name for each in ast.walk(tree) if isinstance(each, ast.FunctionDef)}
            for node in ast.walk(tree):
                if isinstance(node, ast.Name):
                    self.assertIn(node.id, bound | BUILTINS, name)
                if isinstance(node, ast.Attribute):
                    self.assertIn(node.attr, METHODS | own, name)

    def test_no_barred_name(self):
        for name, tree in trees():
            for node in ast.walk(tree):
                for field in ("id", "name", "arg", "attr"):
                    word = getattr(node, field, None)
                    if isinstance(word, str):
                        self.assertNotIn(word, BARRED_WORDS, name)
                        self.assertRegex(word, r"\A(_?[A-Za-z][A-Za-z0-9_]*|_|__[a-z]+__)\Z", name)

    def test_sets_are_not_iterated(self):
        for name, tree in trees():
            for node in ast.walk(tree):
                if isinstance(node, (ast.For, ast.comprehension)):
                    self.assertNotIsInstance(node.iter, (ast.Set, ast.SetComp), name)

    def test_the_interface_is_defined_where_it_is_listed(self):
        found = {name: {node.name for node in tree.body
                        if isinstance(node, (ast.FunctionDef, ast.ClassDef))}
                 for name, tree in trees()}
        for name, names in DEFINED.items():
            self.assertLessEqual(names, found[name], name)

    def test_a_class_defines_its_listed_methods_in_its_own_body(self):
        tree = dict(trees())["answers.py"]
        methods = [inner.name for node in tree.body if isinstance(node, ast.ClassDef)
                   and node.name == "Zigzag" for inner in node.body
                   if isinstance(inner, ast.FunctionDef)]
        self.assertEqual(methods, ["__init__", "shows"])

    def test_no_two_files_import_from_each_other(self):
        brings = {"risefall." + name.removesuffix(".py"): {
            node.module for node in tree.body if isinstance(node, ast.ImportFrom)}
            for name, tree in trees()}
        while brings:
            ready = [name for name in brings if not brings[name] & set(brings)]
            self.assertTrue(ready, sorted(brings))
            for name in ready:
                del brings[name]


if __name__ == "__main__":
    unittest.main()
