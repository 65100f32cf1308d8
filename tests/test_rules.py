"""The form of the program: the interface's names and arguments, and the rules that a glance can check."""

import ast
import inspect
import pathlib
import unittest

from stillruns import breaks, bridges, desk, editions, kinds, least, papers, readings, rows, terms, texts

PACKAGE = pathlib.Path(__file__).resolve().parent.parent / "stillruns"
BUILTINS = set("""len range enumerate zip min max sum abs sorted reversed int str bool bytes list tuple dict set
frozenset isinstance ord repr any all divmod pow iter next map getattr hasattr setattr super property staticmethod
classmethod Exception ValueError TypeError KeyError IndexError LookupError ZeroDivisionError ArithmeticError
OverflowError RuntimeError NotImplementedError AttributeError StopIteration NotImplemented""".split())
LIBRARY = ("heapq", "math", "itertools", "collections")
FORBIDDEN = (ast.Global, ast.AsyncFunctionDef, ast.Await, ast.Import, ast.Div)


def trees():
    for path in sorted(PACKAGE.rglob("*.py")):
        yield path, ast.parse(path.read_text(encoding="utf-8"))


class Interface(unittest.TestCase):
    def test_names_and_arguments(self):
        for owner, name, wanted in [
            (kinds, "depth", "(kind)"),
            (editions, "Edition", "(kinds, doors, *, number=(1, 0, 0))"),
            (editions, "fits", "(edition, given, wanted)"),
            (terms, "size", "(term)"),
            (terms, "kind_of", "(edition, term)"),
            (terms, "runs", "(edition, term)"),
            (terms, "breaks", "(elder, newer, term)"),
            (least, "sizes", "(edition)"),
            (least, "least", "(edition, kind, *, limit=200)"),
            (breaks, "pairs", "(elder, newer)"),
            (breaks, "least_break", "(elder, newer, *, limit=200)"),
            (breaks, "break_size", "(elder, newer)"),
            (breaks, "next_number", "(elder, newer)"),
            (papers, "relation", "(elder, newer)"),
            (papers, "relation_holds", "(elder, newer, rows)"),
            (papers, "table", "(elder, newer)"),
            (papers, "table_holds", "(elder, newer, rows, *, bound)"),
            (bridges, "bridged", "(newer, bridge)"),
            (bridges, "unfolded", "(bridge, term)"),
            (bridges, "lost_doors", "(elder, newer)"),
            (rows, "together", "(one, other)"),
            (rows, "numbers", "(editions)"),
            (rows, "reach", "(editions, at)"),
            (texts, "show_kind", "(kind)"),
            (texts, "show_edition", "(edition)"),
            (texts, "show_term", "(term)"),
            (readings, "read_kind", "(text)"),
            (readings, "read_edition", "(text)"),
            (desk, "Desk", "()"),
            (desk.Desk, "say", "(self, row)"),
            (desk.Desk, "book", "(self)"),
            (desk.Desk, "busy", "(self)"),
            (desk.Desk, "__len__", "(self)"),
            (editions.Edition, "kinds", "(self)"),
            (editions.Edition, "doors", "(self)"),
            (editions.Edition, "__len__", "(self)"),
            (editions.Edition, "__eq__", "(self, other)"),
            (editions.Edition, "__ne__", "(self, other)"),
        ]:
            with self.subTest(name):
                self.assertEqual(str(inspect.signature(getattr(owner, name))), wanted)
                self.assertIn(name, vars(owner))
                home = owner.__module__ if isinstance(owner, type) else owner.__name__
                self.assertEqual(getattr(owner, name).__module__, home)

    def test_values(self):
        self.assertEqual((editions.FIRST, least.LIMIT), ((1, 0, 0), 200))


class Rules(unittest.TestCase):
    def test_only_plain_files(self):
        for path in PACKAGE.rglob("*"):
            if "__pycache__" not in path.parts:
                self.assertEqual(path.suffix, ".py", path)

    def test_lengths_and_characters(self):
        for path in PACKAGE.rglob("*.py"):
            lines = path.read_text(encoding="utf-8").split("\n")
            self.assertLessEqual(len(lines), 399, path)
            for line in lines:
                self.assertLessEqual(len(line), 120, (path, line))
                self.assertTrue(all(" " <= sign <= "~" for sign in line), (path, line))

    def test_functions_are_short(self):
        for path, tree in trees():
            for node in ast.walk(tree):
                if isinstance(node, ast.FunctionDef):
                    self.assertLessEqual(node.end_lineno - node.lineno + 1, 40, (path, node.name))

    def test_imports_and_statements(self):
        for path, tree in trees():
            for node in ast.walk(tree):
                self.assertNotIsInstance(node, FORBIDDEN, (path, getattr(node, "lineno", 0)))
                if isinstance(node, ast.ImportFrom):
                    self.assertEqual(node.level, 0)
                    self.assertIn(node.module.split(".")[0], ("stillruns",) + LIBRARY, path)

    def test_builtins(self):
        others = set(dir(__builtins__) if not isinstance(__builtins__, dict) else __builtins__) - BUILTINS
        for path, tree in trees():
            for node in ast.walk(tree):
                names = [getattr(node, field, None) for field in ("id", "arg")]
                names += [getattr(node, "name", None)] if not isinstance(node, ast.alias) else []
                for name in names:
                    self.assertNotIn(name, others, (path, getattr(node, "lineno", 0)))

    def test_any_and_all_take_lists(self):
        for path, tree in trees():
            for node in ast.walk(tree):
                if isinstance(node, ast.Call) and isinstance(node.func, ast.Name):
                    if node.func.id in ("any", "all", "min", "max", "sum", "sorted"):
                        self.assertFalse([each for each in node.args if isinstance(each, ast.GeneratorExp)],
                                         (path, node.lineno))


if __name__ == "__main__":
    unittest.main()
