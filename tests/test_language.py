"""The package keeps to what ../shared/LANGUAGE.md says of files, names and calls, as far as a short test can see it."""

import ast
import builtins
import pathlib
import unittest
import warnings

FOLDER = pathlib.Path(__file__).resolve().parent.parent / "pilerecall"
BUILTINS = set(
    "len range enumerate zip min max sum abs sorted reversed int str bool list tuple dict set isinstance ord repr any"
    " all divmod iter ValueError TypeError KeyError IndexError NotImplemented".split()
)
# What may be imported from outside.
LIBRARY = {"heapq": ("heappop", "heappush")}
METHODS = set(
    "append clear copy count endswith extend find get index insert isalnum isalpha isdigit islower isspace isupper"
    " items join keys ljust lower lstrip partition pop remove replace reverse rfind rjust rpartition rsplit rstrip"
    " setdefault split splitlines startswith strip update upper values zfill bit_length".split()
)
DOUBLES = set("__init__ __eq__ __len__ __iter__ __contains__ __invert__ __and__ __or__ __enter__ __exit__".split())
BARRED_WORDS = set("open input law register elements mro type eval exec compile id vars dir help exit quit".split())
BARRED_NODES = (
    ast.AsyncFunctionDef, ast.Await, ast.GeneratorExp, ast.Global, ast.Import, ast.Lambda, ast.Set, ast.AnnAssign,
    ast.Try, ast.Match, ast.NamedExpr, ast.YieldFrom, ast.Div, ast.Starred,
)


def sources():
    """The name, the text and the tree of each file of the package."""
    for path in sorted(FOLDER.glob("*.py")):
        text = path.read_text(encoding="utf-8")
        yield path.stem, text, ast.parse(text)


def is_new_list(node):
    """Whether an expression plainly makes a new list: a literal, a comprehension, a slice, list(..), many times one."""
    if isinstance(node, ast.BinOp):
        return is_new_list(node.left)
    if isinstance(node, ast.Subscript):
        return isinstance(node.slice, ast.Slice)
    if isinstance(node, ast.Call):
        return isinstance(node.func, ast.Name) and node.func.id == "list"
    return isinstance(node, (ast.List, ast.ListComp))


def root_of(node):
    """The name in front of all items and attributes of a target."""
    while isinstance(node, (ast.Subscript, ast.Attribute)):
        node = node.value
    return node.id


def names_in(node):
    """All names that an expression reads."""
    return {part.id for part in ast.walk(node) if isinstance(part, ast.Name)}


def is_plain_number(node):
    """Whether an expression plainly is a number that nothing can be walked by: a literal, or len(..)."""
    if isinstance(node, ast.Call):
        return isinstance(node.func, ast.Name) and node.func.id == "len"
    return isinstance(node, ast.Constant) and isinstance(node.value, int)


class FilesTest(unittest.TestCase):
    def test_the_folder_contains_nothing_else(self):
        others = [path.name for path in FOLDER.iterdir() if path.suffix != ".py" and path.name != "__pycache__"]
        self.assertEqual(others, [])
        self.assertTrue((FOLDER / "__init__.py").exists())

    def test_sizes_and_characters(self):
        for name, text, tree in sources():
            lines = text.split("\n")
            with self.subTest(name):
                self.assertLessEqual(len(lines), 400)
                self.assertLessEqual(max(len(line) for line in lines), 120)
                self.assertTrue(all(" " <= mark <= "~" or mark == "\n" for mark in text))
                for node in ast.walk(tree):
                    if isinstance(node, ast.FunctionDef):
                        self.assertLessEqual(node.end_lineno - node.lineno + 1, 40, node.name)

    def test_no_warnings(self):
        with warnings.catch_warnings():
            warnings.simplefilter("error")
            for name, text, _ in sources():
                compile(text, name, "exec")


class ImportsTest(unittest.TestCase):
    def test_imports_name_the_file_that_defines_the_name(self):
        defined = {}
        for name, _, tree in sources():
            defined[f"pilerecall.{name}"] = {
                getattr(node, "name", None) or getattr(node.targets[0], "id", None)
                for node in tree.body
                if isinstance(node, (ast.FunctionDef, ast.ClassDef, ast.Assign))
            }
        for name, _, tree in sources():
            for node in ast.walk(tree):
                if isinstance(node, ast.ImportFrom):
                    for alias in node.names:
                        with self.subTest(name, imported=alias.name):
                            self.assertIn(alias.name, LIBRARY.get(node.module) or defined[node.module])
                            self.assertIsNone(alias.asname)

    def test_no_circle(self):
        needs = {
            f"pilerecall.{name}": {node.module for node in ast.walk(tree) if isinstance(node, ast.ImportFrom)}
            for name, _, tree in sources()
        }
        while needs:
            free = [name for name in needs if not needs[name] & set(needs)]
            self.assertTrue(free, f"a circle in {sorted(needs)}")
            for name in free:
                del needs[name]

    def test_each_import_is_used(self):
        for name, text, tree in sources():
            used = {node.id for node in ast.walk(tree) if isinstance(node, ast.Name)}
            for node in tree.body:
                if isinstance(node, ast.ImportFrom):
                    for alias in node.names:
                        with self.subTest(name):
                            self.assertIn(alias.name, used)


class WordsTest(unittest.TestCase):
    def test_statements_and_expressions(self):
        for name, _, tree in sources():
            for node in ast.walk(tree):
                with self.subTest(name, line=getattr(node, "lineno", None)):
                    self.assertNotIsInstance(node, BARRED_NODES)
                    self.assertFalse(getattr(node, "decorator_list", []))
                    self.assertNotIsInstance(getattr(node, "value", None), (float, complex))
                    if isinstance(node, ast.Compare) and any(isinstance(op, (ast.Is, ast.IsNot)) for op in node.ops):
                        self.assertIn(node.comparators[0].value, (None, True, False))

    def test_calls(self):
        own = {node.name for _, _, tree in sources() for node in ast.walk(tree)
               if isinstance(node, (ast.FunctionDef, ast.ClassDef))}
        own |= {word for words in LIBRARY.values() for word in words}
        for name, _, tree in sources():
            # A function from a table is called by a name that is assigned it.
            tabled = {node.targets[0].id for node in ast.walk(tree) if isinstance(node, ast.Assign)
                      and isinstance(node.value, ast.Subscript) and getattr(node.value.value, "id", "").isupper()}
            for node in ast.walk(tree):
                if not isinstance(node, ast.Call):
                    continue
                with self.subTest(name, line=node.lineno):
                    if isinstance(node.func, ast.Attribute):
                        self.assertIn(node.func.attr, METHODS | own)
                    else:
                        self.assertIn(node.func.id, BUILTINS | own | tabled)

    def test_what_is_walked_to_change_a_list_is_a_new_list(self):
        for name, _, tree in sources():
            for node in ast.walk(tree):
                if isinstance(node, ast.Call) and getattr(node.func, "attr", None) in ("extend", "update"):
                    with self.subTest(name, line=node.lineno):
                        self.assertTrue(is_new_list(node.args[0]))

    def test_what_is_added_in_place_is_not_what_changes(self):
        for name, _, tree in sources():
            for node in ast.walk(tree):
                if isinstance(node, ast.AugAssign) and isinstance(node.op, (ast.Add, ast.BitOr)):
                    with self.subTest(name, line=node.lineno):
                        self.assertTrue(is_plain_number(node.value) or root_of(node.target) not in names_in(node.value))

    def test_methods_with_double_underscores(self):
        for name, _, tree in sources():
            for node in ast.walk(tree):
                if isinstance(node, ast.FunctionDef) and node.name.startswith("__"):
                    with self.subTest(name):
                        self.assertIn(node.name, DOUBLES)

    def test_names(self):
        for name, _, tree in sources():
            taken = {alias.name for node in tree.body if isinstance(node, ast.ImportFrom) for alias in node.names}
            taken |= {node.name for node in tree.body if isinstance(node, ast.ClassDef)}
            taken |= set(dir(builtins)) | BARRED_WORDS
            for node in ast.walk(tree):
                bound = None
                if isinstance(node, ast.Name) and isinstance(node.ctx, ast.Store):
                    bound = node.id
                elif isinstance(node, ast.arg):
                    bound = node.arg
                elif isinstance(node, ast.FunctionDef):
                    bound = node.name
                with self.subTest(name, bound=bound):
                    self.assertNotIn(bound, taken)

    def test_no_name_is_a_method_and_an_attribute(self):
        methods, attributes = set(), set()
        for _, _, tree in sources():
            for node in ast.walk(tree):
                if isinstance(node, ast.ClassDef):
                    methods |= {one.name for one in node.body if isinstance(one, ast.FunctionDef)}
                if isinstance(node, ast.Attribute) and isinstance(node.ctx, ast.Store):
                    attributes.add(node.attr)
        self.assertEqual(methods & attributes, set())


if __name__ == "__main__":
    unittest.main()
