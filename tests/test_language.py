"""The rules of ../shared/LANGUAGE.md that a short look at the files can tell."""

import ast
import builtins
import pathlib
import re
import unittest

PACKAGE = pathlib.Path(__file__).resolve().parent.parent / "hammersale"
ALLOWED = set(
    "len range enumerate zip min max sum abs sorted reversed int str bool bytes list tuple dict set frozenset "
    "isinstance ord repr any all divmod super property staticmethod classmethod Exception ValueError TypeError "
    "KeyError IndexError LookupError ZeroDivisionError ArithmeticError OverflowError RuntimeError "
    "NotImplementedError AttributeError StopIteration NotImplemented".split())
BARRED_WORDS = re.compile(
    r"\b(type|typing|typing_extensions|enum|Enum|IntEnum|StrEnum|Flag|IntFlag|Generic|Protocol|ABC|ABCMeta|"
    r"namedtuple|NamedTuple|TypedDict|TYPE_CHECKING|abstractmethod)\b|dataclass|overload|contextmanager")
BARRED_NAMES = set(
    "register mro elements open input version_info with_traceback add_note compile dir eval exec exit getattr "
    "globals hasattr help id license locals quit setattr vars sys os".split())
BARRED_NODES = (ast.Global, ast.AsyncFunctionDef, ast.AsyncFor, ast.AsyncWith, ast.Await, ast.Import, ast.Div)
TOP = (ast.ImportFrom, ast.FunctionDef, ast.ClassDef, ast.Assign)


def files():
    return sorted(path for path in PACKAGE.rglob("*") if path.is_file() and "__pycache__" not in path.parts)


def trees():
    return [(path.name, ast.parse(path.read_text(encoding="utf-8"))) for path in files()]


def nodes():
    return [(name, node) for name, tree in trees() for node in ast.walk(tree)]


def bound_names(tree):
    for node in ast.walk(tree):
        if isinstance(node, ast.Name) and not isinstance(node.ctx, ast.Load):
            yield node.id
        if isinstance(node, ast.arg):
            yield node.arg
        if isinstance(node, (ast.FunctionDef, ast.ClassDef)):
            yield node.name
        if isinstance(node, ast.alias):
            yield node.asname or node.name
        if isinstance(node, ast.ExceptHandler) and node.name:
            yield node.name


def top_names(tree):
    plain = [node.name for node in tree.body if isinstance(node, (ast.FunctionDef, ast.ClassDef))]
    return plain + [aim.id for node in tree.body if isinstance(node, ast.Assign) for aim in node.targets]


def imports_of(tree):
    return [node for node in tree.body if isinstance(node, ast.ImportFrom)]


class LanguageTest(unittest.TestCase):
    def test_files_and_characters(self):
        for path in files():
            self.assertRegex(path.name, r"\A[a-z_][a-z0-9_]*\.py\Z")
            text = path.read_bytes().decode("ascii")
            self.assertRegex(text, r"\A[ -~\n]*\Z", path.name)
            self.assertIsNone(BARRED_WORDS.search(text), path.name)

    def test_size(self):
        for path in files():
            lines = path.read_text(encoding="utf-8").splitlines()
            self.assertLessEqual(len(lines), 400, path.name)
            self.assertLessEqual(max(map(len, lines)), 120, path.name)
        for name, node in nodes():
            if isinstance(node, ast.FunctionDef):
                self.assertLessEqual(node.end_lineno - node.lineno + 1, 40, f"{name}: {node.name}")

    def test_module_level(self):
        for name, tree in trees():
            for at, node in enumerate(tree.body):
                docstring = at == 0 and isinstance(node, ast.Expr) and isinstance(node.value, ast.Constant)
                self.assertTrue(docstring or isinstance(node, TOP), f"{name}:{node.lineno}")
            names = top_names(tree) + [one.name for node in imports_of(tree) for one in node.names]
            self.assertEqual(len(names), len(set(names)), name)

    def test_imports_name_the_file_that_defines(self):
        defined = {f"hammersale.{name[:-3]}": top_names(tree) for name, tree in trees()}
        for name, tree in trees():
            for node in imports_of(tree):
                for one in node.names:
                    self.assertIn(one.name, defined[node.module], name)
                    self.assertIsNone(one.asname)

    def test_no_two_files_import_from_each_other(self):
        left = {f"hammersale.{name[:-3]}": [node.module for node in imports_of(tree)] for name, tree in trees()}
        while left:
            free = [name for name in left if not any(one in left for one in left[name])]
            self.assertTrue(free, sorted(left))
            for name in free:
                del left[name]

    def test_names(self):
        for name, tree in trees():
            for word in bound_names(tree):
                if word == "__init__":
                    continue
                self.assertFalse(word.startswith("_"), f"{name}: {word}")
                self.assertNotIn(word, BARRED_NAMES, name)
                self.assertFalse(hasattr(builtins, word), f"{name}: {word}")

    def test_no_local_name_is_that_of_an_import_or_a_class(self):
        for name, tree in trees():
            taken = [one.name for node in imports_of(tree) for one in node.names]
            taken += [node.name for node in tree.body if isinstance(node, ast.ClassDef)]
            for function in [node for node in ast.walk(tree) if isinstance(node, ast.FunctionDef)]:
                inner = [word for part in function.args.args + function.body for word in bound_names(part)]
                self.assertEqual(sorted(set(inner) & set(taken)), [], f"{name}: {function.name}")

    def test_methods_and_attributes(self):
        classes = [node for name, node in nodes() if isinstance(node, ast.ClassDef)]
        methods = {one.name for node in classes for one in node.body if isinstance(one, ast.FunctionDef)}
        attributes = {node.attr for name, node in nodes()
                      if isinstance(node, ast.Attribute) and not isinstance(node.ctx, ast.Load)}
        self.assertEqual(sorted(methods & attributes), [])
        of_values = {word for value in ("", b"", 0, [], (), {}, set()) for word in dir(value)}
        self.assertEqual(sorted((methods | attributes) & of_values), ["__init__"])
        read = {node.attr for name, node in nodes() if isinstance(node, ast.Attribute)}
        self.assertEqual(sorted(read - methods - attributes - of_values), [])

    def test_builtins(self):
        for name, tree in trees():
            known = set(bound_names(tree)) | ALLOWED
            used = {node.id for node in ast.walk(tree) if isinstance(node, ast.Name)}
            self.assertEqual(sorted(used - known), [], name)

    def test_values_and_signs(self):
        for name, node in nodes():
            self.assertNotIsInstance(node, BARRED_NODES, name)
            if isinstance(node, ast.Constant):
                self.assertNotIsInstance(node.value, (float, complex), name)
                self.assertNotIn("%", str(node.value), name)
            if isinstance(node, ast.Compare) and any(isinstance(op, (ast.Is, ast.IsNot)) for op in node.ops):
                self.assertTrue(all(isinstance(right, ast.Constant) for right in node.comparators), name)


if __name__ == "__main__":
    unittest.main()
