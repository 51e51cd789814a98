"""The package keeps to the rules of its language, as far as a small looker at its code can tell.

It is narrower than the rules in places where the package does not need what they allow.
"""

import ast
import builtins
import pathlib
import re
import unittest

PACKAGE = pathlib.Path(__file__).resolve().parent.parent / "millpapers"
LIBRARY = {
    "heapq": {"heappush", "heappop", "heapify", "heapreplace", "heappushpop"},
    "math": {"gcd", "lcm", "isqrt", "comb", "perm", "factorial"},
    "itertools": {"product", "combinations", "permutations"},
}
BUILTINS = set("""
len range enumerate zip min max sum abs sorted reversed int str bool bytes list tuple dict set frozenset
isinstance ord repr any all divmod Exception ValueError TypeError KeyError IndexError LookupError
ZeroDivisionError ArithmeticError OverflowError RuntimeError NotImplementedError AttributeError StopIteration
NotImplemented iter next super map property staticmethod classmethod
""".split())
METHODS = set("""append clear copy count endswith extend find get index insert isalnum isalpha isdigit islower isspace
isupper items join keys ljust lower lstrip partition pop remove replace reverse rfind rjust rpartition rsplit rstrip
setdefault split splitlines startswith strip update upper values zfill bit_length add discard __init__""".split())
BARRED = set("""register mro elements open input law version_info with_traceback add_note attrgetter breakpoint builtins
compile copyright credits delattr dir eval exec exit gc getattr globals hasattr help id importlib license locals
methodcaller os quit setattr type vars sys typing enum dataclass overload contextmanager""".split())
DUNDERS = {"__init__", "__eq__", "__repr__", "__str__", "__len__"}
ITERATED = {"zip", "enumerate", "reversed", "range", "map", "product", "combinations", "permutations"}
TAKERS = {"list", "tuple", "dict", "sorted", "sum", "any", "all", "enumerate", "zip", "min", "max", "len"}
STATEMENTS = (ast.Assign, ast.AugAssign, ast.If, ast.While, ast.For, ast.Return, ast.Break, ast.Continue, ast.Pass,
              ast.Raise, ast.Delete, ast.Expr, ast.FunctionDef, ast.ClassDef, ast.ImportFrom, ast.Try,
              ast.ExceptHandler)
EXPRESSIONS = (ast.BoolOp, ast.BinOp, ast.UnaryOp, ast.IfExp, ast.Dict, ast.ListComp, ast.DictComp, ast.Compare,
               ast.Call, ast.JoinedStr, ast.FormattedValue, ast.Constant, ast.Attribute, ast.Subscript,
               ast.Starred, ast.Name, ast.List, ast.Tuple, ast.Slice, ast.Lambda)


def files():
    return sorted(PACKAGE.rglob("*.py"))


def parents_of(tree):
    parents = {}
    for node in ast.walk(tree):
        for child in ast.iter_child_nodes(node):
            parents[child] = node
    return parents


def bound_names(function):
    """All parameters and local names of a function, comprehensions and nested functions included."""
    names = [argument.arg for node in ast.walk(function) if isinstance(node, (ast.FunctionDef, ast.Lambda))
             for argument in node.args.args]
    names += [node.id for node in ast.walk(function)
              if isinstance(node, ast.Name) and not isinstance(node.ctx, ast.Load)]
    return set(names) - {"_"}


class LanguageTest(unittest.TestCase):
    def setUp(self):
        self.trees = {path: ast.parse(path.read_text(encoding="ascii")) for path in files()}

    def nodes(self, *kinds):
        for path, tree in self.trees.items():
            for node in ast.walk(tree):
                if isinstance(node, kinds):
                    yield "%s:%d" % (path.name, getattr(node, "lineno", 0)), node

    def test_files(self):
        self.assertLessEqual(len(self.trees), 100)
        for path in PACKAGE.rglob("*"):
            if "__pycache__" in path.parts:
                continue
            self.assertTrue(path.is_dir() or re.fullmatch(r"[a-z0-9_]+\.py", path.name), path)
            self.assertFalse(re.match(r"law_|tests?\b|test_|testing\b|conftest|site", path.name), path)
        self.assertTrue((PACKAGE / "__init__.py").exists())

    def test_sizes_and_characters(self):
        for path in files():
            lines = path.read_text(encoding="ascii").split("\n")
            self.assertLessEqual(len(lines), 400, path)
            for number, line in enumerate(lines, 1):
                self.assertRegex(line, r"^[ -~]{0,120}$", "%s:%d" % (path.name, number))
        for at, node in self.nodes(ast.FunctionDef):
            self.assertLessEqual(node.end_lineno - node.lineno + 1, 40, at)

    def test_statements_and_expressions(self):
        for at, node in self.nodes(ast.stmt, ast.expr):
            self.assertIsInstance(node, STATEMENTS + EXPRESSIONS, at)

    def test_module_level(self):
        for path, tree in self.trees.items():
            bound = []
            for place, node in enumerate(tree.body):
                at = "%s:%d" % (path.name, node.lineno)
                if isinstance(node, ast.Expr):
                    self.assertEqual(place, 0, at)
                    self.assertIsInstance(node.value.value, str, at)
                elif isinstance(node, ast.ImportFrom):
                    bound += [alias.name for alias in node.names]
                elif isinstance(node, ast.Assign):
                    self.assertIsInstance(node.targets[0], ast.Name, at)
                    ast.literal_eval(node.value)
                    bound.append(node.targets[0].id)
                else:
                    self.assertIsInstance(node, (ast.FunctionDef, ast.ClassDef), at)
                    bound.append(node.name)
            self.assertEqual(len(bound), len(set(bound)), path)

    def test_imports(self):
        defined = {path.stem: [node.name if hasattr(node, "name") else node.targets[0].id for node in tree.body
                               if isinstance(node, (ast.FunctionDef, ast.ClassDef, ast.Assign))]
                   for path, tree in self.trees.items()}
        for at, node in self.nodes(ast.ImportFrom):
            self.assertEqual(node.level, 0, at)
            names = [alias.name for alias in node.names]
            self.assertFalse([alias for alias in node.names if alias.asname], at)
            if node.module in LIBRARY:
                self.assertLessEqual(set(names), LIBRARY[node.module], at)
                continue
            package, _, file = node.module.partition(".")
            self.assertEqual(package, "millpapers", at)
            self.assertLessEqual(set(names), set(defined[file]), at)
        self.assertFalse(list(self.nodes(ast.Import)))

    def test_imports_are_needed_and_go_no_circles(self):
        needs = {}
        for path, tree in self.trees.items():
            needs[path.stem] = [node.module.partition(".")[2] for node in tree.body
                                if isinstance(node, ast.ImportFrom) and node.module.startswith("millpapers.")]
            used = {node.id for node in ast.walk(tree) if isinstance(node, ast.Name)}
            for node in tree.body:
                if isinstance(node, ast.ImportFrom):
                    self.assertFalse([alias.name for alias in node.names if alias.name not in used], path)
        while needs:
            free = [name for name, others in needs.items() if not any(other in needs for other in others)]
            self.assertTrue(free, needs)
            needs = {name: others for name, others in needs.items() if name not in free}

    def test_functions_and_classes(self):
        for at, node in self.nodes(ast.FunctionDef):
            self.assertFalse(node.decorator_list, at)
            self.assertFalse(node.args.vararg or node.args.kwarg or node.args.kwonlyargs or node.args.posonlyargs, at)
            for default in node.args.defaults:
                self.assertIsInstance(default, ast.Constant, at)
            if node.name.startswith("__"):
                self.assertIn(node.name, DUNDERS, at)
        for at, node in self.nodes(ast.ClassDef):
            self.assertFalse(node.decorator_list or node.keywords, at)
            methods = [item.name for item in node.body if isinstance(item, ast.FunctionDef)]
            self.assertEqual(len(methods), len(set(methods)), at)
            attributes = {item.attr for item in ast.walk(node)
                          if isinstance(item, ast.Attribute) and isinstance(item.ctx, ast.Store)}
            self.assertFalse(attributes & set(methods), at)

    def test_names(self):
        for path, tree in self.trees.items():
            taken = set(dir(builtins))
            for node in tree.body:
                if isinstance(node, ast.ImportFrom):
                    taken |= {alias.name for alias in node.names}
                if isinstance(node, ast.ClassDef):
                    taken.add(node.name)
            for node in ast.walk(tree):
                if isinstance(node, ast.FunctionDef):
                    self.assertFalse(bound_names(node) & taken, (path, node.name))
                    self.assertNotIn(node.name, set(dir(builtins)) - {"__init__"}, path)
        words = [(at, node.id) for at, node in self.nodes(ast.Name)]
        words += [(at, node.attr) for at, node in self.nodes(ast.Attribute)]
        words += [(at, node.name) for at, node in self.nodes(ast.FunctionDef, ast.ClassDef)]
        words += [(at, node.arg) for at, node in self.nodes(ast.arg, ast.keyword)]
        for at, word in words:
            self.assertNotIn(word, BARRED, at)
            self.assertRegex(word, r"^(_?[A-Za-z][A-Za-z0-9_]*|_|__init__|__eq__|__len__|__str__|__repr__)$", at)
            self.assertNotRegex(word, r"^_(wall|pe_|dcw_|enum_|cm_|twin_re_|lay_|law_|stub_|sre|record|cold)", at)
            self.assertNotRegex(word, r"^_(outside|tuplegetter|written_out|member_names)", at)

    def test_builtins(self):
        for path, tree in self.trees.items():
            for node in ast.walk(tree):
                if isinstance(node, ast.Name) and node.id in dir(builtins):
                    self.assertIn(node.id, BUILTINS, (path, node.lineno))

    def test_methods(self):
        own = {item.name for _, node in self.nodes(ast.ClassDef) for item in node.body
               if isinstance(item, ast.FunctionDef)}
        stored = {node.attr for _, node in self.nodes(ast.Attribute) if isinstance(node.ctx, ast.Store)}
        for at, node in self.nodes(ast.Call):
            if isinstance(node.func, ast.Attribute):
                self.assertIn(node.func.attr, own | METHODS, at)
                self.assertFalse(node.keywords, at)
            for keyword in node.keywords:
                self.assertIn(keyword.arg, ("key", "reverse", "default", "start", "strict"), at)
        for at, node in self.nodes(ast.Attribute):
            self.assertIn(node.attr, own | METHODS | stored, at)

    def test_names_of_methods_and_attributes(self):
        own = {item.name for _, node in self.nodes(ast.ClassDef) for item in node.body
               if isinstance(item, ast.FunctionDef)}
        stored = {node.attr for _, node in self.nodes(ast.Attribute) if isinstance(node.ctx, ast.Store)}
        self.assertFalse(own & stored)
        for at, node in self.nodes(ast.ClassDef):
            self.assertRegex(node.name, "^[A-Z]", at)

    def test_values(self):
        for at, node in self.nodes(ast.Constant):
            self.assertNotIsInstance(node.value, (float, complex, bytes), at)
            if isinstance(node.value, str):
                self.assertNotIn(chr(37), node.value, at)
        for at, node in self.nodes(ast.BinOp):
            self.assertNotIsInstance(node.op, (ast.Div, ast.Pow, ast.MatMult), at)
        for at, node in self.nodes(ast.Compare):
            for kind, other in zip(node.ops, node.comparators):
                if isinstance(kind, (ast.Is, ast.IsNot)):
                    self.assertIsInstance(other, ast.Constant, at)
        for at, node in self.nodes(ast.Call):
            for argument in node.args:
                if isinstance(argument, ast.Starred):
                    self.assertIsInstance(argument.value, (ast.Name, ast.Attribute), at)
            if isinstance(node.func, ast.Name):
                self.assertNotIn(node.func.id, ("set", "frozenset", "map", "iter", "next", "bytes"), at)

    def test_iterated_at_once(self):
        for path, tree in self.trees.items():
            parents = parents_of(tree)
            for node in ast.walk(tree):
                if not isinstance(node, ast.Call):
                    continue
                word = node.func.id if isinstance(node.func, ast.Name) else getattr(node.func, "attr", None)
                if word not in ITERATED and word not in ("items", "keys", "values"):
                    continue
                above = parents[node]
                at = "%s:%d" % (path.name, node.lineno)
                if isinstance(above, (ast.For, ast.comprehension)):
                    self.assertIs(above.iter, node, at)
                elif isinstance(above, ast.Compare) and word == "range":
                    self.assertIs(above.comparators[0], node, at)
                else:
                    self.assertIsInstance(above, ast.Call, at)
                    self.assertIn(getattr(above.func, "id", None), TAKERS | {"reversed", "combinations"}, at)
                    self.assertIs(above.args[0], node, at)

    def test_loops_change_nothing_that_they_iterate_over(self):
        for at, node in self.nodes(ast.For):
            names = {ast.dump(item) for item in ast.walk(node.iter) if isinstance(item, (ast.Name, ast.Attribute))}
            for item in [inner for row in node.body for inner in ast.walk(row)]:
                if isinstance(item, ast.Call) and isinstance(item.func, ast.Attribute):
                    if item.func.attr in ("append", "extend", "insert", "pop", "remove", "clear", "update", "reverse"):
                        self.assertNotIn(ast.dump(item.func.value), names, at)
                if isinstance(item, ast.Subscript) and not isinstance(item.ctx, ast.Load):
                    self.assertNotIn(ast.dump(item.value), names, at)

    def test_errors(self):
        for at, node in self.nodes(ast.Raise):
            self.assertIsInstance(node.exc, ast.Call, at)
            self.assertIsInstance(node.exc.func, ast.Name, at)
        for at, node in self.nodes(ast.ExceptHandler):
            self.assertIsInstance(node.type, ast.Name, at)


if __name__ == "__main__":
    unittest.main()
