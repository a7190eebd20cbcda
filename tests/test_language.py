"""Some rules of how the program is written: sizes, signs, imports and words."""

import ast
import io
import tokenize
from pathlib import Path
from unittest import TestCase, main

PACKAGE = Path(__file__).resolve().parent.parent / "anywriting"
FILES = sorted(PACKAGE.glob("*.py"))
BUILTINS = set(
    "len range enumerate zip min max sum abs sorted reversed int str bool bytes list tuple dict set frozenset "
    "isinstance ord repr any all divmod pow map iter next property staticmethod classmethod super Exception "
    "ValueError TypeError KeyError IndexError LookupError ZeroDivisionError ArithmeticError OverflowError "
    "RuntimeError NotImplementedError AttributeError StopIteration NotImplemented type".split()
)
LIBRARY = {"math": {"gcd", "lcm", "isqrt", "comb", "perm", "factorial"}, "itertools": {"product", "combinations"}}
BARRED = set("open input law mro elements register eval exec compile globals locals vars dir id hash format".split())


class Language(TestCase):
    def trees(self):
        return [(path, ast.parse(path.read_text(encoding="utf-8"))) for path in FILES]

    def test_the_package_holds_files_of_python_alone(self):
        for path in PACKAGE.iterdir():
            self.assertTrue(path.suffix == ".py" or path.name == "__pycache__", path)
        self.assertIn("__init__.py", [path.name for path in FILES])

    def test_sizes_and_signs(self):
        for path in FILES:
            text = path.read_text(encoding="utf-8")
            lines = text.splitlines()
            self.assertLessEqual(len(lines), 399, path)
            self.assertTrue(all(sign == "\n" or " " <= sign <= "~" for sign in text), path)
            for number, line in enumerate(lines, 1):
                self.assertLessEqual(len(line), 120, (path, number))
                self.assertEqual(line, line.rstrip(), (path, number))

    def test_functions_of_at_most_40_lines(self):
        for path, tree in self.trees():
            for node in ast.walk(tree):
                if isinstance(node, ast.FunctionDef):
                    self.assertLessEqual(node.end_lineno - node.lineno + 1, 40, (path, node.name))

    def test_imports_are_of_the_defining_file_and_go_one_way(self):
        uses = {}
        for path, tree in self.trees():
            uses[path.stem] = []
            for node in ast.walk(tree):
                self.assertNotIsInstance(node, ast.Import, path)
                if isinstance(node, ast.ImportFrom):
                    self.check_import(path, node, uses[path.stem])
        done = []
        while len(done) < len(uses):
            ready = [name for name in uses if name not in done and all(other in done for other in uses[name])]
            self.assertTrue(ready, "files import each other")
            done += ready

    def check_import(self, path, node, found):
        names = {alias.name for alias in node.names}
        self.assertTrue(all(alias.asname is None for alias in node.names), path)
        if node.module in LIBRARY:
            self.assertLessEqual(names, LIBRARY[node.module], path)
            return
        package, _, file = node.module.partition(".")
        self.assertEqual(package, "anywriting", path)
        found.append(file)
        tree = ast.parse((PACKAGE / (file + ".py")).read_text(encoding="utf-8"))
        defined = {item.name for item in tree.body if isinstance(item, (ast.FunctionDef, ast.ClassDef))}
        defined |= {item.targets[0].id for item in tree.body if isinstance(item, ast.Assign)}
        self.assertLessEqual(names, defined, path)

    def test_names(self):
        everything = set(dir(__builtins__)) if not isinstance(__builtins__, dict) else set(__builtins__)
        for path, tree in self.trees():
            kept = {name for node in ast.walk(tree) for name in self.bound(node)}
            self.assertFalse(kept & (everything | BARRED), path)
            for node in ast.walk(tree):
                if isinstance(node, ast.Name) and node.id in everything:
                    self.assertIn(node.id, BUILTINS, path)

    def bound(self, node):
        """The names that a node binds."""
        if isinstance(node, ast.Name) and isinstance(node.ctx, ast.Store):
            return [node.id]
        if isinstance(node, (ast.FunctionDef, ast.ClassDef)):
            return [node.name]
        return [node.arg] if isinstance(node, ast.arg) else []

    def test_no_local_name_is_that_of_an_import_or_a_class_of_its_file(self):
        for path, tree in self.trees():
            taken = {alias.name for node in tree.body if isinstance(node, ast.ImportFrom) for alias in node.names}
            taken |= {node.name for node in tree.body if isinstance(node, ast.ClassDef)}
            top = {name for node in tree.body for name in self.bound(node)}
            inner = [name for node in ast.walk(tree) for name in self.bound(node) if name not in top]
            self.assertFalse(taken & set(inner), path)
            self.assertFalse(taken & (top - {node.name for node in tree.body if isinstance(node, ast.ClassDef)}), path)

    def test_statements_and_expressions(self):
        barred = (
            ast.Set, ast.SetComp, ast.GeneratorExp, ast.Div, ast.Pow, ast.Lambda, ast.Yield, ast.Global, ast.AsyncFor,
            ast.Try, ast.With, ast.Match, ast.Delete, ast.NamedExpr, ast.JoinedStr,
        )
        for path, tree in self.trees():
            for node in ast.walk(tree):
                self.assertNotIsInstance(node, barred, (path, getattr(node, "lineno", 0)))
                if isinstance(node, ast.Constant):
                    self.assertNotIsInstance(node.value, (float, complex, bytes), path)
                if isinstance(node, ast.FunctionDef):
                    self.assertEqual(node.decorator_list, [], path)

    def test_no_attribute_has_the_name_of_a_method_of_a_list_or_a_dict(self):
        barred = set(
            "items keys values pop update append clear extend insert remove reverse setdefault sort args encode decode "
            "hex fromhex format".split()
        )
        for path, tree in self.trees():
            for node in ast.walk(tree):
                if isinstance(node, ast.Attribute) and isinstance(node.ctx, ast.Store):
                    self.assertNotIn(node.attr, barred, (path, node.lineno))

    def test_no_name_is_a_method_and_an_attribute_of_one_class(self):
        for path, tree in self.trees():
            for kind in [node for node in tree.body if isinstance(node, ast.ClassDef)]:
                methods = [node.name for node in kind.body if isinstance(node, ast.FunctionDef)]
                self.assertEqual(len(methods), len(set(methods)), (path, kind.name))
                for node in ast.walk(kind):
                    if isinstance(node, ast.Attribute) and isinstance(node.ctx, ast.Store):
                        self.assertNotIn(node.attr, methods, (path, kind.name))

    def test_no_string_has_a_barred_sign(self):
        for path in FILES:
            text = path.read_text(encoding="utf-8")
            for token in tokenize.generate_tokens(io.StringIO(text).readline):
                if token.type == tokenize.STRING and not token.string.startswith('"""'):
                    self.assertNotIn("%", token.string, path)
                    self.assertNotIn("__", token.string, path)

    def test_no_loop_changes_what_it_goes_over(self):
        # No loop goes over what it changes: appended and iterated names are apart.
        for path, tree in self.trees():
            for loop in ast.walk(tree):
                if isinstance(loop, ast.For) and isinstance(loop.iter, ast.Name):
                    changed = [
                        node.func.value.id for node in ast.walk(loop)
                        if isinstance(node, ast.Call) and isinstance(node.func, ast.Attribute)
                        and isinstance(node.func.value, ast.Name)
                        and node.func.attr in ("append", "extend", "pop", "insert", "remove", "clear", "update")
                    ]
                    self.assertNotIn(loop.iter.id, changed, (path, loop.lineno))


if __name__ == "__main__":
    main()
