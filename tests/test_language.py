"""The rules of the language that the package is written in, as far as a short look sees them."""

import ast
import builtins
import pathlib
import unittest

PACKAGE = pathlib.Path(__file__).resolve().parent.parent / "rowreaders"
FILES = sorted(PACKAGE.rglob("*.py"))
ALLOWED = set("""len range enumerate zip min max sum abs sorted reversed int str bool bytes list tuple dict set isinstance
    ord repr any all divmod iter next map Exception ValueError TypeError KeyError IndexError LookupError
    ZeroDivisionError ArithmeticError OverflowError RuntimeError NotImplementedError StopIteration property
    staticmethod classmethod super True False None NotImplemented""".split())
LIBRARY = {"heapq": {"heappush", "heappop", "heapify", "heapreplace", "heappushpop"},
           "math": {"gcd", "lcm", "isqrt", "comb", "perm", "factorial"},
           "itertools": {"product", "combinations", "permutations"}}
NEVER = {"register", "mro", "elements", "open", "input", "law", "version_info", "with_traceback", "add_note"}
STATEMENTS = (ast.Global, ast.AsyncFunctionDef, ast.AsyncFor, ast.AsyncWith, ast.Import)
OPERATORS = set("""__init__ __eq__ __repr__ __str__ __len__ __enter__ __exit__ __bool__ __contains__ __iter__
    __getitem__ __setitem__""".split())
TAKES_LISTS = {"any", "all", "min", "max", "sum", "sorted"}


def trees():
    for path in FILES:
        text = path.read_text(encoding="utf-8")
        yield path, text, ast.parse(text)


def bound_names(tree):
    """All names that a file gives a meaning."""
    for node in ast.walk(tree):
        if isinstance(node, (ast.FunctionDef, ast.ClassDef)):
            yield node.name
        elif isinstance(node, ast.arg):
            yield node.arg
        elif isinstance(node, ast.Name) and isinstance(node.ctx, ast.Store):
            yield node.id
        elif isinstance(node, ast.ImportFrom):
            for alias in node.names:
                yield alias.asname or alias.name


def functions(tree):
    return [node for node in ast.walk(tree) if isinstance(node, ast.FunctionDef)]


class LanguageTest(unittest.TestCase):
    def test_files_and_lines(self):
        self.assertEqual({path.name for path in PACKAGE.iterdir() if path.name != "__pycache__"},
                         {path.name for path in FILES})
        for path, text, tree in trees():
            self.assertTrue(all(" " <= sign <= "~" or sign == "\n" for sign in text), path)
            lines = text.split("\n")
            self.assertLessEqual(len(lines), 400, path)
            self.assertLessEqual(max(len(line) for line in lines), 120, path)
            for function in functions(tree):
                self.assertLessEqual(function.end_lineno - function.lineno + 1, 40, (path, function.name))

    def test_imports(self):
        own = {f"rowreaders.{path.stem}": path for path in FILES}
        imported = {}
        for path, _, tree in trees():
            imported[path.stem] = []
            for node in ast.walk(tree):
                if not isinstance(node, ast.ImportFrom):
                    continue
                self.assertEqual(node.level, 0, path)
                names = {alias.name for alias in node.names}
                if node.module in LIBRARY:
                    self.assertLessEqual(names, LIBRARY[node.module], path)
                    continue
                self.assertIn(node.module, own, path)
                defined = set(bound_names(ast.Module([part for part in ast.parse(own[node.module].read_text()).body
                                                      if not isinstance(part, ast.ImportFrom)], [])))
                self.assertLessEqual(names, defined, path)
                imported[path.stem].append(node.module.split(".")[1])
        while imported:
            free = [name for name in imported if not any(other in imported for other in imported[name])]
            self.assertTrue(free, f"files import from each other: {sorted(imported)}")
            for name in free:
                del imported[name]

    def test_names(self):
        for path, _, tree in trees():
            for name in bound_names(tree):
                self.assertNotIn(name, NEVER, path)
                self.assertFalse(hasattr(builtins, name) and not name.startswith("_"), (path, name))
            used = {node.id for node in ast.walk(tree) if isinstance(node, ast.Name)}
            for name in used - set(bound_names(tree)):
                self.assertTrue(name in ALLOWED, (path, name))

    def test_imports_and_classes_keep_their_names(self):
        for path, _, tree in trees():
            kept = {alias.name for node in tree.body if isinstance(node, ast.ImportFrom) for alias in node.names}
            kept |= {node.name for node in tree.body if isinstance(node, ast.ClassDef)}
            for function in functions(tree):
                inner = set(bound_names(function)) - {function.name}
                self.assertFalse(inner & kept, (path, function.name, inner & kept))

    def test_imports_are_used(self):
        for path, _, tree in trees():
            used = {node.id for node in ast.walk(tree) if isinstance(node, ast.Name)}
            for node in tree.body:
                if isinstance(node, ast.ImportFrom):
                    for alias in node.names:
                        self.assertIn(alias.name, used, path)

    def test_statements_and_expressions(self):
        for path, _, tree in trees():
            for node in ast.walk(tree):
                self.assertNotIsInstance(node, STATEMENTS, (path, getattr(node, "lineno", 0)))
                if isinstance(node, ast.Constant):
                    self.assertNotIsInstance(node.value, (float, complex), path)
                    self.assertNotIn("%", str(node.value), path)
                if isinstance(node, ast.BinOp):
                    self.assertNotIsInstance(node.op, (ast.Div, ast.MatMult), (path, node.lineno))
                    if isinstance(node.op, ast.Pow):
                        self.assertIsInstance(node.right, ast.Constant, (path, node.lineno))
                if isinstance(node, ast.Compare):
                    for sign, side in zip(node.ops, node.comparators):
                        if isinstance(sign, (ast.Is, ast.IsNot)):
                            self.assertIsInstance(side, ast.Constant, (path, node.lineno))
                if isinstance(node, ast.Call) and isinstance(node.func, ast.Name) and node.func.id in TAKES_LISTS:
                    self.assertFalse(any(isinstance(part, ast.GeneratorExp) for part in node.args),
                                     (path, node.lineno))

    def test_errors_that_are_caught(self):
        own = {node.name for node in ast.parse((PACKAGE / "errors.py").read_text()).body if isinstance(node, ast.ClassDef)}
        for path, _, tree in trees():
            for node in ast.walk(tree):
                if not isinstance(node, ast.Try):
                    continue
                for handler in node.handlers:
                    kinds = handler.type.elts if isinstance(handler.type, ast.Tuple) else [handler.type]
                    self.assertLessEqual({kind.id for kind in kinds}, own, (path, node.lineno))
                for part in node.finalbody:
                    self.assertIsInstance(part, ast.Assign, (path, part.lineno))
                    for side in (*part.targets, part.value):
                        self.assertIsInstance(side, (ast.Name, ast.Attribute), (path, part.lineno))

    def test_statements_behind_trials(self):
        for path, _, tree in trees():
            for function in functions(tree):
                if function.name == "__exit__":
                    for part in function.body:
                        self.assertIsInstance(part, ast.Assign, (path, part.lineno))
                        for side in (*part.targets, part.value):
                            self.assertIsInstance(side, (ast.Name, ast.Attribute), (path, part.lineno))

    def test_operators(self):
        stored = set()
        for path, _, tree in trees():
            for kind in [node for node in tree.body if isinstance(node, ast.ClassDef)]:
                names = {function.name for function in functions(kind)}
                self.assertLessEqual({name for name in names if name.startswith("__")}, OPERATORS, (path, kind.name))
                if "__getitem__" in names:
                    self.assertIn("__iter__", names, (path, kind.name))
                stored |= names
            for node in ast.walk(tree):
                if isinstance(node, ast.Attribute) and isinstance(node.ctx, ast.Store):
                    stored.add(node.attr)
        self.assertNotIn("keys", stored)
        for path, text, tree in trees():
            for word in ("(type)", "Meta", "metaclass="):
                self.assertNotIn(word, text, path)
            for node in ast.walk(tree):
                if isinstance(node, ast.Call) and isinstance(node.func, ast.Name):
                    self.assertNotIn(node.func.id, ("product", "combinations", "permutations", "reversed"), path)
                if isinstance(node, ast.Call) and isinstance(node.func, ast.Attribute):
                    self.assertNotEqual(node.func.attr, "sort", path)

    def test_sets_are_kept_where_they_are(self):
        for path, _, tree in trees():
            for function in functions(tree):
                nodes = list(ast.walk(function))
                kept = [node.targets[0].id for node in nodes if isinstance(node, ast.Assign)
                        and isinstance(node.targets[0], ast.Name) and self.is_set(node.value)]
                self.assertEqual(len(kept), len(set(kept)), (path, function.name))
                for node in nodes:
                    inner = ast.walk(node) if isinstance(node, (ast.Lambda, ast.ListComp, ast.DictComp)) else []
                    for part in inner:
                        if isinstance(part, ast.Name):
                            self.assertNotIn(part.id, kept, (path, function.name))
                    if isinstance(node, ast.Return) and isinstance(node.value, ast.Name):
                        self.assertNotIn(node.value.id, kept, (path, function.name))

    def is_set(self, node):
        return isinstance(node, (ast.Set, ast.SetComp)) or (
            isinstance(node, ast.Call) and isinstance(node.func, ast.Name) and node.func.id == "set")

    def test_decorators(self):
        for path, _, tree in trees():
            for node in ast.walk(tree):
                for decorator in getattr(node, "decorator_list", []):
                    name = decorator.attr if isinstance(decorator, ast.Attribute) else decorator.id
                    self.assertIn(name, ("property", "setter", "staticmethod", "classmethod"), path)

    def test_properties_share_no_names(self):
        properties = {function.name for _, _, tree in trees() for function in functions(tree)
                      if function.decorator_list}
        methods = {function.name for _, _, tree in trees() for kind in tree.body if isinstance(kind, ast.ClassDef)
                   for function in functions(kind) if not function.decorator_list}
        stored = {node.attr for _, _, tree in trees() for node in ast.walk(tree)
                  if isinstance(node, ast.Attribute) and isinstance(node.ctx, ast.Store)}
        self.assertFalse(properties & (methods | stored))

    def test_each_function_and_class_tells_what_it_is(self):
        for path, _, tree in trees():
            self.assertTrue(ast.get_docstring(tree), path)
            for node in tree.body:
                if isinstance(node, (ast.FunctionDef, ast.ClassDef)):
                    self.assertTrue(ast.get_docstring(node), (path, node.name))
