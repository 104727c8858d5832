"""Checks of the package's files against the rules of LANGUAGE.md that a short test can see.

The numbers in the messages are those of the rules. Rules that need more insight are left to the reader.
"""

import ast
import builtins
import io
import pathlib
import re
import tokenize
import unittest

ROOT = pathlib.Path(__file__).resolve().parent.parent
PACKAGE = ROOT / "zoneward"
FILES = sorted(PACKAGE.rglob("*.py"))
TREES = [(path.name, ast.parse(path.read_text(encoding="ascii"))) for path in FILES]

LIBRARY = {"__future__", "heapq", "math", "itertools", "collections"}
STATEMENTS = (ast.Assign, ast.AugAssign, ast.AnnAssign, ast.If, ast.While, ast.For, ast.Return, ast.Break,
              ast.Continue, ast.Pass, ast.Raise, ast.Assert, ast.Delete, ast.Nonlocal, ast.Match, ast.With,
              ast.Try, ast.Expr, ast.FunctionDef, ast.ClassDef, ast.ImportFrom)
MODULE_STATEMENTS = (ast.Assign, ast.AnnAssign, ast.FunctionDef, ast.ClassDef, ast.ImportFrom)
BUILTINS = set("""len range enumerate zip min max sum abs sorted reversed int str bool list tuple dict set
    frozenset isinstance ord repr any all divmod pow map iter next getattr hasattr setattr super property
    staticmethod classmethod bytes object NotImplemented Exception ValueError TypeError KeyError IndexError
    LookupError ZeroDivisionError ArithmeticError OverflowError RuntimeError NotImplementedError AttributeError
    StopIteration""".split())
METHODS = set("""append clear copy count endswith extend find get index insert isalnum isalpha isdigit islower
    isspace isupper items join keys ljust lower lstrip partition pop remove replace reverse rfind rjust
    rpartition rsplit rstrip setdefault split splitlines startswith strip update upper values zfill bit_length
    title capitalize swapcase casefold center expandtabs removeprefix removesuffix rindex isascii isdecimal
    isnumeric istitle isidentifier isprintable translate encode decode hex sort format add discard""".split())
SPECIAL_METHODS = {f"__{word}__" for word in """init eq repr str len enter exit call iter lt le gt ge ne add sub
    mul floordiv mod pow and or xor lshift rshift radd rsub rmul rfloordiv rmod rand ror rxor rlshift rrshift
    iadd isub imul ifloordiv imod ipow iand ior ixor ilshift irshift neg pos invert abs bool contains getitem
    setitem""".split()}
OTHER_SPECIAL_NAMES = {"__slots__", "__all__", "__version__"}
BARRED_NAMES = set("""register mro elements open input law version_info with_traceback add_note attrgetter
    breakpoint builtins compile copyright credits delattr dir eval exec exit gc globals help id importlib license
    locals methodcaller os quit sys vars""".split())
BARRED_WORDS = set("""type typing typing_extensions enum Enum IntEnum StrEnum Flag IntFlag Generic Protocol ABC
    ABCMeta namedtuple NamedTuple TypedDict TYPE_CHECKING abstractmethod dataclass overload
    contextmanager""".split())


def docstrings(tree):
    owners = (ast.Module, ast.ClassDef, ast.FunctionDef)
    return [node.body[0].value for node in ast.walk(tree)
            if isinstance(node, owners) and ast.get_docstring(node, clean=False) is not None]


def bound_names(tree):
    for node in ast.walk(tree):
        if isinstance(node, (ast.FunctionDef, ast.ClassDef)):
            yield node.name
        elif isinstance(node, ast.arg):
            yield node.arg
        elif isinstance(node, ast.Name) and isinstance(node.ctx, ast.Store):
            yield node.id
        elif isinstance(node, ast.alias):
            yield node.name
        elif isinstance(node, ast.ExceptHandler) and node.name is not None:
            yield node.name


class LanguageTest(unittest.TestCase):
    def test_the_folder_contains_python_files_only(self):
        self.assertIn(PACKAGE / "__init__.py", FILES)
        for path in PACKAGE.rglob("*"):
            if path.is_file() and "__pycache__" not in path.parts:
                self.assertEqual(path.suffix, ".py", f"L1: {path}")
                self.assertRegex(path.stem, "^[a-z0-9_]+$", "L14")

    def test_characters_and_sizes(self):
        for path in FILES:
            with self.subTest(path.name):
                text = path.read_text(encoding="ascii")
                self.assertRegex(text, re.compile("^[ -~\n]*$"), "L14")
                self.assertLessEqual(len(text.splitlines()), 399, "L10")
                self.assertLessEqual(max(map(len, text.splitlines())), 120, "L10")

    def test_the_length_of_functions(self):
        for file, node in self.nodes():
            if isinstance(node, ast.FunctionDef):
                self.assertLessEqual(node.end_lineno - node.lineno + 1, 40, f"L10: {file} {node.name}")

    def test_module_level(self):
        for file, tree in TREES:
            body = tree.body[1:] if ast.get_docstring(tree) is not None else tree.body
            names = []
            for node in body:
                self.assertIsInstance(node, MODULE_STATEMENTS, f"L3: {file} {node.lineno}")
                if isinstance(node, ast.Assign):
                    self.assertEqual([target.__class__ for target in node.targets], [ast.Name], f"L3: {file}")
                    names.append(node.targets[0].id)
                elif isinstance(node, (ast.FunctionDef, ast.ClassDef)):
                    names.append(node.name)
                elif isinstance(node, ast.ImportFrom):
                    names.extend(alias.name for alias in node.names)
            self.assertEqual(len(names), len(set(names)), f"L15: {file}")

    def test_imports(self):
        for file, tree in TREES:
            for node in ast.walk(tree):
                self.assertNotIsInstance(node, ast.Import, f"L2, L16: {file}")
                if isinstance(node, ast.ImportFrom):
                    self.assertIn(node, tree.body, f"L2: {file}")
                    self.assertEqual(node.level, 0, f"L2: {file}")
                    self.assertTrue(node.module.startswith("zoneward.") or node.module in LIBRARY, f"L2: {file}")
                    self.assertNotIn("*", [alias.name for alias in node.names], f"L2: {file}")

    def test_statements_and_expressions(self):
        for file, node in self.nodes():
            self.assertNotIsInstance(node, (ast.Await, ast.Div), f"L6, L7: {file}")
            if isinstance(node, ast.stmt):
                self.assertIsInstance(node, STATEMENTS, f"L6: {file} {node.lineno}")
            if isinstance(node, ast.FunctionDef):
                decorators = {ast.unparse(part).split(".")[-1] for part in node.decorator_list}
                self.assertLessEqual(decorators, {"property", "setter", "staticmethod", "classmethod"}, f"L4: {file}")

    def test_names(self):
        for file, tree in TREES:
            for name in bound_names(tree):
                self.assertTrue(name.isascii(), f"L12: {file} {name}")
                self.assertNotIn(name, BARRED_NAMES, f"L17: {file}")
                if name.startswith("__"):
                    self.assertIn(name, SPECIAL_METHODS | OTHER_SPECIAL_NAMES, f"L5: {file}")

    def test_builtins(self):
        for file, tree in TREES:
            methods = {part for node in ast.walk(tree) if isinstance(node, ast.ClassDef) for part in node.body}
            for node in ast.walk(tree):
                if isinstance(node, ast.Name) and hasattr(builtins, node.id):
                    self.assertIsInstance(node.ctx, ast.Load, f"L15: {file} {node.lineno}")
                    self.assertIn(node.id, BUILTINS, f"L8: {file} {node.lineno}")
                elif isinstance(node, (ast.FunctionDef, ast.ClassDef)) and node not in methods:
                    self.assertFalse(hasattr(builtins, node.name), f"L15: {file} {node.lineno}")
                elif isinstance(node, ast.arg):
                    self.assertFalse(hasattr(builtins, node.arg), f"L15: {file} {node.lineno}")

    def test_no_local_name_hides_a_class_or_an_import(self):
        for file, tree in TREES:
            above = {alias.name for node in tree.body if isinstance(node, ast.ImportFrom) for alias in node.names}
            above |= {node.name for node in tree.body if isinstance(node, ast.ClassDef)}
            for function in ast.walk(tree):
                if isinstance(function, ast.FunctionDef):
                    self.assertFalse(above & set(bound_names(ast.Module(function.body, []))), f"L15: {file}")
                    self.assertFalse(above & {part.arg for part in ast.walk(function.args)
                                              if isinstance(part, ast.arg)}, f"L15: {file}")

    def test_methods_and_attributes(self):
        assigned = set()
        for file, node in self.nodes():
            if isinstance(node, ast.ClassDef):
                own = {part.attr for part in ast.walk(node) if isinstance(part, ast.Attribute)
                       and isinstance(part.ctx, ast.Store) and isinstance(part.value, ast.Name)}
                self.assertFalse(own & {part.name for part in node.body if isinstance(part, ast.FunctionDef)},
                                 f"L18: {file} {node.name}")
                assigned |= own
        called = {node.func for _, node in self.nodes() if isinstance(node, ast.Call)}
        for file, node in self.nodes():
            if isinstance(node, ast.Attribute) and node not in called:
                self.assertIn(node.attr, assigned, f"L18: {file} {node.lineno}")

    def test_methods_with_the_names_of_builtin_ones_have_no_keywords(self):
        for file, node in self.nodes():
            if isinstance(node, ast.Call) and isinstance(node.func, ast.Attribute) and node.func.attr in METHODS:
                self.assertEqual(node.keywords, [], f"L22: {file} {node.lineno}")

    def test_methods_that_are_called(self):
        own = {node.name for _, node in self.nodes() if isinstance(node, ast.FunctionDef)}
        for file, node in self.nodes():
            if isinstance(node, ast.Call) and isinstance(node.func, ast.Attribute):
                self.assertIn(node.func.attr, METHODS | own, f"L25: {file} {node.lineno}")

    def test_expressions_that_are_narrowed(self):
        for file, node in self.nodes():
            self.assertNotIsInstance(node, ast.GeneratorExp, f"L7, beside a class with __eq__: {file}")
            if isinstance(node, ast.Call) and isinstance(node.func, ast.Name):
                self.assertNotEqual(node.func.id, "bytes", f"L7: {file} {node.lineno}")
            if isinstance(node, ast.Attribute):
                self.assertNotIn(node.attr, ["to_bytes", "fromhex", "sort"], f"L7, L25: {file} {node.lineno}")

    def test_no_two_files_import_from_each_other(self):
        below = {file.removesuffix(".py"): {node.module.split(".")[-1] for node in tree.body
                                            if isinstance(node, ast.ImportFrom)} for file, tree in TREES}
        while below:
            free = {file for file, needed in below.items() if not needed & set(below)}
            self.assertTrue(free, f"L16: {sorted(below)}")
            below = {file: needed for file, needed in below.items() if file not in free}

    def test_literals(self):
        for file, tree in TREES:
            notes = docstrings(tree)
            for node in ast.walk(tree):
                if isinstance(node, ast.Constant) and node not in notes:
                    self.assertNotIsInstance(node.value, (float, complex), f"L7: {file} {node.lineno}")
                    if isinstance(node.value, str):
                        words = set(re.findall("[A-Za-z0-9_]+", node.value))
                        self.assertNotIn("%", node.value, f"L27: {file} {node.lineno}")
                        self.assertFalse(words & BARRED_WORDS, f"L17: {file} {node.lineno}")

    def test_words_and_escapes(self):
        for path in FILES:
            text = path.read_text(encoding="ascii")
            for token in tokenize.generate_tokens(io.StringIO(text).readline):
                where = f"{path.name} {token.start[0]}"
                if token.type == tokenize.NAME:
                    self.assertNotIn(token.string, BARRED_WORDS, f"L17: {where}")
                if token.type == tokenize.STRING and "b" not in token.string[:2].lower():
                    for escape in re.findall(r"\\.", token.string):
                        self.assertIn(escape, ["\\n", "\\t", "\\\\", "\\'", '\\"'], f"L27: {where}")

    def nodes(self):
        for file, tree in TREES:
            for node in ast.walk(tree):
                yield file, node
