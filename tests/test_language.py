"""Those rules of the subset that a look at the text of the package can hold it to."""

import ast
import builtins
import pathlib
import re
import unittest

FOLDER = pathlib.Path(__file__).resolve().parent.parent / "laidplates"
FILES = {path: path.read_text(encoding="utf-8") for path in sorted(FOLDER.rglob("*.py"))}
TREES = {path: ast.parse(text) for path, text in FILES.items()}

BUILTINS = set("""len range enumerate zip min max sum abs sorted reversed int str bool bytes list tuple dict set
    frozenset isinstance ord repr any all divmod pow Exception ValueError TypeError KeyError IndexError LookupError
    ZeroDivisionError ArithmeticError OverflowError RuntimeError NotImplementedError AttributeError StopIteration
    NotImplemented""".split())
METHODS = set("""append clear copy count endswith extend find get index insert isalnum isalpha isdigit islower isspace
    isupper items join keys ljust lower lstrip partition pop remove replace reverse rfind rjust rpartition rsplit
    rstrip setdefault split splitlines startswith strip update upper values zfill bit_length add discard sort
    __init__""".split())
BARRED = re.compile(r"\b(type(?!\()|typing|typing_extensions|enum|Enum|IntEnum|StrEnum|Flag|IntFlag|Generic|Protocol"
                    r"|ABC|ABCMeta|namedtuple|NamedTuple|TypedDict|TYPE_CHECKING|abstractmethod)\b"
                    r"|dataclass|overload|contextmanager|_wall")
NAMES = set("""register mro elements open input law version_info with_traceback add_note attrgetter breakpoint builtins
    compile copyright credits delattr dir eval exec exit gc getattr globals hasattr help id importlib license locals
    methodcaller os quit setattr super type vars sys""".split())
LAZY = (ast.GeneratorExp, ast.Yield, ast.YieldFrom)
UNUSED = (ast.AsyncFunctionDef, ast.Await, ast.Global, ast.ImportFrom, ast.Import, ast.Div, ast.SetComp)


def is_type_call(node):
    return isinstance(node, ast.Call) and isinstance(node.func, ast.Name) and node.func.id == "type"


def methods_of(tree):
    return [one for node in tree.body if isinstance(node, ast.ClassDef) for one in node.body
            if isinstance(one, ast.FunctionDef)]


def bound_names(tree):
    """All names that are bound, but those of methods."""
    methods = methods_of(tree) if isinstance(tree, ast.Module) else []
    for node in ast.walk(tree):
        if node in methods:
            continue
        if isinstance(node, ast.Name) and not isinstance(node.ctx, ast.Load):
            yield node.id
        elif isinstance(node, ast.arg):
            yield node.arg
        elif isinstance(node, (ast.FunctionDef, ast.ClassDef)):
            yield node.name


def without_docstrings(tree):
    """The text of a tree without its comments and docstrings."""
    bare = ast.parse(ast.unparse(tree))
    for node in ast.walk(bare):
        if isinstance(node, (ast.Module, ast.FunctionDef, ast.ClassDef)) and ast.get_docstring(node) is not None:
            node.body = node.body[1:] or [ast.Pass()]
    return ast.unparse(bare)


class LanguageTests(unittest.TestCase):
    def test_files(self):
        self.assertTrue(FILES)
        for path, text in FILES.items():
            lines = text.split("\n")
            self.assertRegex(path.name, r"\A[a-z_][a-z0-9_]*\.py\Z")
            self.assertLessEqual(len(lines) - 1, 399, path)
            self.assertLessEqual(max(map(len, lines)), 120, path)
            self.assertTrue(all(sign == "\n" or " " <= sign <= "~" for sign in text), path)

    def test_functions_are_small(self):
        for path, tree in TREES.items():
            for node in ast.walk(tree):
                if isinstance(node, ast.FunctionDef):
                    self.assertLessEqual(node.end_lineno - node.lineno + 1, 40, (path, node.name))
                    self.assertEqual(node.decorator_list, [], (path, node.name))

    def test_module_level(self):
        for path, tree in TREES.items():
            bound = [name.name for node in tree.body if isinstance(node, ast.ImportFrom) for name in node.names]
            for at, node in enumerate(tree.body):
                docstring = at == 0 and isinstance(node, ast.Expr)
                self.assertTrue(docstring or isinstance(
                    node, (ast.ImportFrom, ast.FunctionDef, ast.ClassDef, ast.Assign)), (path, node.lineno))
                bound += [node.name] if isinstance(node, (ast.FunctionDef, ast.ClassDef)) else []
                bound += [target.id for target in node.targets] if isinstance(node, ast.Assign) else []
            self.assertEqual(len(bound), len(set(bound)), path)

    def test_imports(self):
        for path, tree in TREES.items():
            seen_other = False
            for at, node in enumerate(tree.body):
                if isinstance(node, ast.ImportFrom):
                    self.assertFalse(seen_other, path)
                    package, _, file = node.module.partition(".")
                    self.assertEqual((package, node.level), ("laidplates", 0), path)
                    body = TREES[FOLDER / (file + ".py")].body
                    own = {one.name for one in body if hasattr(one, "name")}
                    own |= {one.targets[0].id for one in body if isinstance(one, ast.Assign)}
                    self.assertTrue(own.issuperset(name.name for name in node.names), path)
                    self.assertTrue(all(name.asname is None for name in node.names), path)
                elif at > 0:
                    seen_other = True

    def test_no_file_leads_back_to_itself(self):
        leads = {path.stem: {node.module.partition(".")[2] for node in tree.body if isinstance(node, ast.ImportFrom)}
                 for path, tree in TREES.items()}
        while leads:
            ends = [file for file, others in leads.items() if not others & set(leads)]
            self.assertTrue(ends, leads)
            leads = {file: others for file, others in leads.items() if file not in ends}

    def test_names(self):
        for path, tree in TREES.items():
            imported = {name.name for node in tree.body if isinstance(node, ast.ImportFrom) for name in node.names}
            classes = {node.name for node in tree.body if isinstance(node, ast.ClassDef)}
            for name in bound_names(tree):
                self.assertNotIn(name, NAMES, path)
                self.assertNotIn(name, imported, path)
                self.assertTrue(not hasattr(builtins, name), (path, name))
                self.assertTrue(not name.startswith("__"), (path, name))
            for method in methods_of(tree):
                self.assertNotIn(method.name, NAMES, path)
                self.assertTrue(method.name in ("__init__", "__eq__") or not method.name.startswith("__"), path)
            inner = [name for node in ast.walk(tree) if isinstance(node, ast.FunctionDef)
                     for name in bound_names(node)]
            self.assertFalse(classes & set(inner), path)
            for node in ast.walk(tree):
                if isinstance(node, ast.Name) and hasattr(builtins, node.id):
                    self.assertIn(node.id, BUILTINS | {"type"}, path)

    def test_kinds_of_values_are_only_compared_or_named(self):
        for path, tree in TREES.items():
            asked = []
            for node in ast.walk(tree):
                if isinstance(node, ast.Compare) or isinstance(node, ast.Attribute) and node.attr == "__name__":
                    asked.append(node.left if isinstance(node, ast.Compare) else node.value)
                if isinstance(node, ast.Attribute):
                    self.assertTrue(node.attr == "__init__" or node.attr[:2] != "__" or is_type_call(node.value), path)
            for node in ast.walk(tree):
                if is_type_call(node):
                    self.assertIn(node, asked, (path, node.lineno))

    def test_words(self):
        for path, tree in TREES.items():
            self.assertIsNone(BARRED.search(without_docstrings(tree)), path)
            for node in ast.walk(tree):
                if isinstance(node, ast.Constant) and isinstance(node.value, str):
                    self.assertFalse("%" in node.value, (path, node.lineno))

    def test_signs_and_statements(self):
        for path, tree in TREES.items():
            for node in ast.walk(tree):
                where = (path, getattr(node, "lineno", 0))
                self.assertFalse(isinstance(node, LAZY), where)
                self.assertFalse(isinstance(node, UNUSED) and node not in tree.body, where)
                self.assertFalse(isinstance(node, ast.Constant) and isinstance(node.value, (float, complex)), where)
                if isinstance(node, ast.Compare):
                    for sign, side in zip(node.ops, node.comparators):
                        plain = isinstance(side, ast.Constant) and side.value in (None, True, False)
                        plain = plain or is_type_call(node.left)
                        self.assertTrue(plain or not isinstance(sign, (ast.Is, ast.IsNot)), where)
                if isinstance(node, ast.Try):
                    self.assertTrue(all(isinstance(row, ast.Assign) for row in node.finalbody), where)

    def test_methods_of_built_in_values(self):
        own = {node.name for tree in TREES.values() for node in ast.walk(tree) if isinstance(node, ast.FunctionDef)}
        for path, tree in TREES.items():
            for node in ast.walk(tree):
                if isinstance(node, ast.Call) and isinstance(node.func, ast.Attribute):
                    self.assertIn(node.func.attr, METHODS | own, (path, node.lineno))


if __name__ == "__main__":
    unittest.main()
