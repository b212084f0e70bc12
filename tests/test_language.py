"""The package keeps to its small part of Python. What can be seen in the code is looked for here, rule by rule."""

import ast
import builtins
import re
import unittest
from pathlib import Path

PACKAGE = Path(__file__).resolve().parent.parent / "bentrows"
OWN_CALLS = """len range enumerate zip min max sum abs sorted reversed int str bool list tuple dict set frozenset
isinstance ord repr any all divmod Exception ValueError TypeError KeyError IndexError LookupError ZeroDivisionError
ArithmeticError OverflowError RuntimeError NotImplementedError AttributeError StopIteration""".split()
METHODS = """append clear copy count endswith extend find get index insert isalnum isalpha isdigit islower isspace isupper
items join keys ljust lower lstrip partition pop remove replace reverse rfind rjust rpartition rsplit rstrip setdefault
split splitlines startswith strip update upper values zfill bit_length""".split()
DUNDERS = ["__init__", "__eq__", "__repr__", "__str__", "__len__"]
WORDS = """type typing typing_extensions enum Enum IntEnum StrEnum Flag IntFlag Generic Protocol ABC ABCMeta namedtuple
NamedTuple TypedDict TYPE_CHECKING abstractmethod""".split()
UNUSED = """register mro elements open input version_info with_traceback add_note format format_map attrgetter breakpoint
builtins compile copyright credits delattr dir eval exec exit gc getattr globals hasattr help id importlib license locals
methodcaller os quit setattr super vars sys print""".split()
STATEMENTS = (ast.FunctionDef, ast.ClassDef, ast.Assign, ast.AugAssign, ast.If, ast.While, ast.For, ast.Return, ast.Break,
              ast.Continue, ast.Pass, ast.Raise, ast.Try, ast.Expr, ast.ImportFrom)
NO_EXPRESSIONS = (ast.Set, ast.SetComp, ast.DictComp, ast.GeneratorExp, ast.NamedExpr, ast.Starred, ast.Yield,
                  ast.YieldFrom, ast.Await, ast.Div, ast.MatMult)
WALKED = ["zip", "enumerate", "reversed", "range"]
WALKERS = ["list", "tuple", "dict", "sorted", "sum", "any", "all", "enumerate", "zip", "min", "max", "join"]


def files():
    return sorted(PACKAGE.glob("*.py"))


def plain_value(node, functions):
    """Whether a value at a file's top is plain: as L3 and L15 tell, with functions defined above among its parts."""
    if isinstance(node, ast.Name):
        return node.id in functions
    if isinstance(node, (ast.List, ast.Tuple)):
        return all(plain_part(part, functions) for part in node.elts)
    if isinstance(node, ast.Dict):
        return all(plain_part(part, functions) for part in node.keys + node.values)
    return isinstance(ast.literal_eval(node), (int, str, type(None)))


def plain_part(node, functions):
    return not isinstance(node, (ast.List, ast.Dict)) and plain_value(node, functions)


def called_name(node):
    if isinstance(node, ast.Call):
        return node.func.id if isinstance(node.func, ast.Name) else getattr(node.func, "attr", "")
    return ""


def bound_names(tree):
    """All names that a function's parameters, its locals or a loop give a value to."""
    names = []
    for node in ast.walk(tree):
        if isinstance(node, ast.arg):
            names.append(node.arg)
        elif isinstance(node, ast.Name) and isinstance(node.ctx, ast.Store):
            names.append(node.id)
        elif isinstance(node, ast.ExceptHandler) and node.name:
            names.append(node.name)
    return names


class LanguageTest(unittest.TestCase):
    def each_tree(self):
        for path in files():
            yield path.name, ast.parse(path.read_text())

    def each_node(self, kind):
        for name, tree in self.each_tree():
            for node in ast.walk(tree):
                if isinstance(node, kind):
                    yield f"{name}:{getattr(node, 'lineno', 0)}", node

    def test_files(self):
        """L1, L14: plain .py files and nothing else."""
        self.assertIn("__init__.py", [path.name for path in files()])
        for path in PACKAGE.iterdir():
            if path.name != "__pycache__":
                self.assertRegex(path.name, r"^(__init__|__main__|[a-z][a-z0-9_]*)\.py$")
                self.assertNotIn(path.stem, dir(builtins))
                self.assertNotRegex(path.stem, r"^(tests?|testing|test_.*|site|conftest)$")

    def test_signs_and_sizes(self):
        """L10, L14, L17: signs, sizes and words."""
        for path in files():
            text = path.read_bytes().decode("ascii")
            self.assertRegex(text, r"\A[ -~\n]*\Z", path.name)
            self.assertLessEqual(len(text.splitlines()), 400, path.name)
            self.assertLessEqual(max(len(line) for line in text.splitlines()), 120, path.name)
            for word in WORDS:
                self.assertIsNone(re.search(rf"\b{word}\b", text), (path.name, word))
            self.assertIsNone(re.search("dataclass|overload|contextmanager", text), path.name)

    def test_imports(self):
        """L2, L16: full names, from the file that defines them, never round in a circle."""
        draws = {}
        defined = {}
        for name, tree in self.each_tree():
            module = "bentrows." + name[:-3]
            defined[module] = [node.name for node in tree.body if isinstance(node, (ast.FunctionDef, ast.ClassDef))]
            defined[module] += bound_names(ast.Module([n for n in tree.body if isinstance(n, ast.Assign)], []))
            draws[module] = [node for node in ast.walk(tree) if isinstance(node, (ast.Import, ast.ImportFrom))]
            for node in draws[module]:
                self.assertIsInstance(node, ast.ImportFrom, name)
                self.assertEqual(node.level, 0, name)
                self.assertIn(node, tree.body, name)
        for module, nodes in draws.items():
            for node in nodes:
                for alias in node.names:
                    self.assertIn(alias.name, defined[node.module], module)
        done = []
        while len(done) < len(draws):
            ready = [m for m in draws if m not in done and all(node.module in done for node in draws[m])]
            self.assertTrue(ready, "files draw from one another")
            done += ready

    def test_tops(self):
        """L3, L15: what stands at the top of a file, each name bound once."""
        for name, tree in self.each_tree():
            self.assertIsInstance(ast.get_docstring(tree), str, name)
            names = []
            for node in tree.body[1:]:
                self.assertIsInstance(node, (ast.ImportFrom, ast.FunctionDef, ast.ClassDef, ast.Assign), name)
                if isinstance(node, ast.Assign):
                    self.assertNotIsInstance(node.value, ast.Name, name)
                    above = [part.name for part in tree.body[:tree.body.index(node)] if isinstance(part, ast.FunctionDef)]
                    self.assertTrue(plain_value(node.value, above), f"{name}:{node.lineno}")
                    names += bound_names(node)
                elif isinstance(node, ast.ImportFrom):
                    names += [alias.asname or alias.name for alias in node.names]
                else:
                    names.append(node.name)
            self.assertEqual(len(names), len(set(names)), name)

    def test_tops_are_only_read(self):
        """L15: a list or dict of a file's top is read by an index, a walk, in, len or get, and not handed on."""
        for name, tree in self.each_tree():
            kept = [node.targets[0].id for node in tree.body
                    if isinstance(node, ast.Assign) and isinstance(node.value, (ast.List, ast.Dict))]
            fine = []
            for node in ast.walk(tree):
                if isinstance(node, ast.Subscript) and isinstance(node.ctx, ast.Load):
                    fine.append(node.value)
                elif isinstance(node, ast.Compare):
                    fine += node.comparators
                elif isinstance(node, (ast.For, ast.comprehension)):
                    fine.append(node.iter)
                elif isinstance(node, ast.Call) and called_name(node) in ("len", "list", "dict", "sorted"):
                    fine += node.args
                elif isinstance(node, ast.Attribute) and node.attr == "get":
                    fine.append(node.value)
            for node in ast.walk(tree):
                if isinstance(node, ast.Name) and isinstance(node.ctx, ast.Load) and node.id in kept:
                    self.assertIn(node, fine, f"{name}:{node.lineno}")

    def test_methods_and_values(self):
        """L18, L26: no name is a method and a value, and values are given to self alone."""
        values = []
        methods = []
        for name, tree in self.each_tree():
            for owner in [node for node in tree.body if isinstance(node, ast.ClassDef)]:
                names = [part.name for part in owner.body if isinstance(part, ast.FunctionDef)]
                self.assertEqual(len(names), len(set(names)), name)
                methods += names
            for node in ast.walk(tree):
                if isinstance(node, ast.Attribute) and isinstance(node.ctx, ast.Store):
                    self.assertEqual(getattr(node.value, "id", ""), "self", f"{name}:{node.lineno}")
                    values.append(node.attr)
        self.assertEqual(set(values) & set(methods), set())
        own = [dir(kind) for kind in (str, int, list, dict, set, bytes, tuple)]
        for given in values + [method for method in methods if method not in DUNDERS]:
            self.assertNotIn(given, sum(own, []))

    def test_functions(self):
        """L4, L10, L21: plain parameters, no decorator, no annotation, at most 40 lines."""
        for where, node in self.each_node(ast.FunctionDef):
            given = node.args
            self.assertFalse(given.vararg or given.kwarg or given.kwonlyargs or given.posonlyargs, where)
            self.assertFalse(node.decorator_list or node.returns or [a for a in given.args if a.annotation], where)
            self.assertLessEqual(node.end_lineno - node.lineno + 1, 40, where)
            if node.name.startswith("_"):
                self.assertIn(node.name, DUNDERS, where)

    def test_classes(self):
        """L5, L18, L28: plain classes with at most one base."""
        for where, node in self.each_node(ast.ClassDef):
            self.assertFalse(node.decorator_list or node.keywords or len(node.bases) > 1, where)
            for part in node.body:
                self.assertIsInstance(part, (ast.FunctionDef, ast.Pass), where)

    def test_statements(self):
        """L6: these statements alone."""
        for where, node in self.each_node(ast.stmt):
            self.assertIsInstance(node, STATEMENTS, where)
            if isinstance(node, (ast.For, ast.While)):
                self.assertEqual(node.orelse, [], where)
            if isinstance(node, ast.Assign):
                self.assertEqual(len(node.targets), 1, where)
                self.assertNotIsInstance(node.targets[0], (ast.Tuple, ast.List), where)
            if isinstance(node, ast.Try):
                self.assertEqual(node.finalbody, [], where)
        for name, tree in self.each_tree():
            for part in ast.walk(tree):
                if isinstance(part, ast.FunctionDef):
                    for node in ast.walk(part):
                        if isinstance(node, ast.Expr):
                            self.assertIsInstance(node.value, ast.Call, name)

    def test_expressions(self):
        """L7, L20, L27: these values and expressions alone."""
        for where, node in self.each_node((ast.expr, ast.operator, ast.comprehension)):
            self.assertNotIsInstance(node, NO_EXPRESSIONS, where)
            if isinstance(node, ast.Constant):
                self.assertNotIsInstance(node.value, (float, bytes, complex), where)
                self.assertFalse(isinstance(node.value, str) and "%" in node.value, where)
            if isinstance(node, ast.ListComp):
                self.assertEqual(len(node.generators), 1, where)
                self.assertLessEqual(len(node.generators[0].ifs), 1, where)
            if isinstance(node, ast.BinOp) and isinstance(node.op, ast.Pow):
                self.assertIn(ast.literal_eval(node.right), range(65), where)
            if isinstance(node, ast.Compare):
                for op, right in zip(node.ops, node.comparators):
                    if isinstance(op, (ast.Is, ast.IsNot)):
                        self.assertIn(getattr(right, "value", ""), (None, True, False), where)

    def test_names(self):
        """L8, L12, L15, L17: which names are used and given."""
        for name, tree in self.each_tree():
            tops = [node.name for node in tree.body if isinstance(node, (ast.FunctionDef, ast.ClassDef))]
            tops += [alias.name for node in tree.body if isinstance(node, ast.ImportFrom) for alias in node.names]
            for bound in bound_names(tree):
                self.assertRegex(bound, r"^[A-Za-z][A-Za-z0-9_]*$", name)
                self.assertNotIn(bound, dir(builtins) + tops + UNUSED, name)
            known = tops + bound_names(tree) + OWN_CALLS
            for node in ast.walk(tree):
                if isinstance(node, ast.Name):
                    self.assertIn(node.id, known, name)

    def test_methods(self):
        """L25, L26: Python's own methods that are called."""
        own = [node.name for where, node in self.each_node(ast.FunctionDef)]
        for where, node in self.each_node(ast.Call):
            if isinstance(node.func, ast.Attribute):
                self.assertIn(node.func.attr, METHODS + own, where)
        for where, node in self.each_node(ast.Attribute):
            self.assertNotIn(node.attr, UNUSED, where)

    def test_keywords(self):
        """L22: keywords at Python's own names."""
        allowed = {"sorted": ["key", "reverse"], "min": ["key", "default"], "max": ["key", "default"], "sum": ["start"],
                   "enumerate": ["start"], "zip": ["strict"]}
        for where, node in self.each_node(ast.Call):
            if called_name(node) in OWN_CALLS + METHODS:
                for keyword in node.keywords:
                    self.assertIn(keyword.arg, allowed.get(called_name(node), []), where)

    def test_walked_at_once(self):
        """L23, L24: ranges and their like are walked on the spot, sets are not kept."""
        for name, tree in self.each_tree():
            fine = []
            for node in ast.walk(tree):
                if isinstance(node, (ast.For, ast.comprehension)):
                    fine.append(node.iter)
                elif isinstance(node, ast.Call) and called_name(node) in WALKERS:
                    fine += node.args[:1]
            for node in ast.walk(tree):
                if called_name(node) in WALKED + ["items", "keys", "values"]:
                    self.assertIn(node, fine, f"{name}:{node.lineno}")
                self.assertNotIn(called_name(node), ["set", "frozenset"], name)

    def test_errors_taken(self):
        """L19: nothing broad is taken."""
        for where, node in self.each_node(ast.ExceptHandler):
            self.assertIsNotNone(node.type, where)
            self.assertNotIn(getattr(node.type, "id", ""), ["Exception", "TypeError"], where)


if __name__ == "__main__":
    unittest.main()
