"""The form of the package's files: what ../shared/LANGUAGE.md asks, as far as a walk over the code can tell."""

import ast
import builtins
import pathlib
import re
import unittest

from tests.language import faults

PACKAGE = pathlib.Path(__file__).resolve().parent.parent / "codeeditions"

USABLE = """len range enumerate zip min max sum abs sorted reversed int str bool list tuple dict set isinstance ord repr
any all divmod Exception ValueError TypeError KeyError IndexError LookupError ZeroDivisionError ArithmeticError
OverflowError RuntimeError NotImplementedError StopIteration""".split()
METHODS = """append clear copy count endswith extend find get index insert isalnum isalpha isdigit islower isspace isupper
items join keys ljust lower lstrip partition pop remove replace reverse rfind rjust rpartition rsplit rstrip setdefault
split splitlines startswith strip update upper values zfill bit_length""".split()
VALUES = "count index title find get join lower upper split strip copy add".split()
WORDS = """type typing typing_extensions enum Enum IntEnum StrEnum Flag IntFlag Generic Protocol ABC ABCMeta namedtuple
NamedTuple TypedDict TYPE_CHECKING abstractmethod""".split()
PIECES = ("dataclass", "overload", "contextmanager")
NAMES_OUT = """register mro elements open input version_info with_traceback add_note format format_map attrgetter breakpoint
builtins compile copyright credits delattr dir eval exec exit gc getattr globals hasattr help id importlib license locals
methodcaller os quit setattr super sys vars""".split()
SPECIAL = ("__init__", "__eq__", "__repr__", "__str__", "__len__")

STATEMENTS = (ast.Assign, ast.AugAssign, ast.If, ast.While, ast.For, ast.Return, ast.Break, ast.Continue, ast.Pass)
STATEMENTS += (ast.Raise, ast.Try, ast.Expr, ast.FunctionDef, ast.ClassDef, ast.ImportFrom)
OUT = (ast.GeneratorExp, ast.SetComp, ast.DictComp, ast.NamedExpr, ast.Starred, ast.Await, ast.Yield, ast.YieldFrom)
OUT += (ast.Div, ast.MatMult, ast.Set, ast.AnnAssign)
OF_PYTHON = [member for kind in (str, int, list, dict, set, bytes, tuple) for member in dir(kind)]


def files():
    return sorted(PACKAGE.glob("*.py"))


def trees():
    return [(path, ast.parse(path.read_text("ascii"))) for path in files()]


def nodes(kinds):
    return [(path, node) for path, tree in trees() for node in ast.walk(tree) if isinstance(node, kinds)]


def where(path, node):
    return f"{path.name}:{getattr(node, 'lineno', 0)}"


def bound_names(tree):
    """Every name that is bound below a file's top: parameters and locals."""
    found = [node.arg for node in ast.walk(tree) if isinstance(node, ast.arg)]
    for outer in ast.walk(tree):
        if isinstance(outer, ast.FunctionDef):
            stored = [node for node in ast.walk(outer) if isinstance(node, ast.Name) and isinstance(node.ctx, ast.Store)]
            found += [node.id for node in stored]
    return found


class Files(unittest.TestCase):
    def test_what_lies_in_the_package(self):
        for path in PACKAGE.iterdir():
            if path.name != "__pycache__":
                self.assertRegex(path.name, r"^[a-z][a-z0-9_]*\.py$|^__init__\.py$")
                self.assertNotIn(path.stem, dir(builtins))
        self.assertTrue((PACKAGE / "__init__.py").is_file())

    def test_signs_and_sizes(self):
        for path in files():
            text = path.read_text("ascii")
            self.assertRegex(text, r"\A[ -~\n]*\Z", path.name)
            lines = text.splitlines()
            self.assertLessEqual(len(lines), 400, path.name)
            self.assertLessEqual(max([len(line) for line in lines]), 120, path.name)
        for path, node in nodes(ast.FunctionDef):
            self.assertLessEqual(node.end_lineno - node.lineno + 1, 40, where(path, node))

    def test_words_that_stand_nowhere(self):
        for path in files():
            text = path.read_text("ascii")
            self.assertEqual([word for word in re.findall(r"\w+", text) if word in WORDS], [], path.name)
            self.assertEqual([piece for piece in PIECES if piece in text], [], path.name)


class Imports(unittest.TestCase):
    def test_only_own_files_and_what_they_define(self):
        defined = {}
        for path, tree in trees():
            named = [node.name for node in tree.body if isinstance(node, (ast.FunctionDef, ast.ClassDef))]
            named += [node.targets[0].id for node in tree.body if isinstance(node, ast.Assign)]
            self.assertEqual(len(named), len(set(named)), path.name)
            defined["codeeditions." + path.stem] = named
        for path, node in nodes((ast.Import, ast.ImportFrom)):
            self.assertIsInstance(node, ast.ImportFrom, where(path, node))
            self.assertEqual(node.level, 0, where(path, node))
            for alias in node.names:
                self.assertIn(alias.name, defined[node.module], where(path, node))
                self.assertIsNone(alias.asname, where(path, node))

    def test_no_circles(self):
        draws = {path.stem: [] for path in files()}
        for path, node in nodes(ast.ImportFrom):
            draws[path.stem].append(node.module.split(".")[1])
        self.assertEqual(draws["__init__"], [])
        while draws:
            free = [stem for stem in draws if not set(draws[stem]) & set(draws)]
            self.assertNotEqual(free, [], draws)
            draws = {stem: draws[stem] for stem in draws if stem not in free}


class Code(unittest.TestCase):
    def test_statements(self):
        for path, node in nodes(ast.stmt):
            self.assertIsInstance(node, STATEMENTS, where(path, node))
            if isinstance(node, ast.Assign):
                self.assertEqual(len(node.targets), 1, where(path, node))
            if isinstance(node, (ast.For, ast.While)):
                self.assertEqual(node.orelse, [], where(path, node))
            if isinstance(node, ast.Expr):
                self.assertIsInstance(node.value, (ast.Call, ast.Constant), where(path, node))

    def test_expressions(self):
        for path, node in nodes(OUT):
            self.fail(f"{where(path, node)}: {node}")
        for path, node in nodes(ast.Constant):
            self.assertIsInstance(node.value, (int, str, type(None)), where(path, node))
            self.assertFalse(isinstance(node.value, str) and "%" in node.value, where(path, node))
        for path, node in nodes(ast.Compare):
            if any([isinstance(op, (ast.Is, ast.IsNot)) for op in node.ops]):
                self.assertIsInstance(node.comparators[0], ast.Constant, where(path, node))
        for path, node in nodes(ast.ListComp):
            self.assertEqual(len(node.generators), 1, where(path, node))
            self.assertLessEqual(len(node.generators[0].ifs), 1, where(path, node))

    def test_functions_and_classes(self):
        for path, node in nodes((ast.FunctionDef, ast.ClassDef)):
            self.assertEqual(node.decorator_list, [], where(path, node))
            if isinstance(node, ast.FunctionDef):
                spread = [node.args.vararg, node.args.kwarg] + node.args.kwonlyargs + node.args.posonlyargs
                self.assertEqual(spread, [None, None], where(path, node))
                self.assertIsNone(node.returns, where(path, node))
            else:
                self.assertLessEqual(len(node.bases), 1, where(path, node))
                body = [part for part in node.body if not isinstance(part, ast.FunctionDef)]
                self.assertEqual([part for part in body if not isinstance(part, ast.Expr)], [], where(path, node))

    def test_names(self):
        for path, tree in trees():
            taken = [alias.name for node in tree.body if isinstance(node, ast.ImportFrom) for alias in node.names]
            taken += [node.name for node in tree.body if isinstance(node, ast.ClassDef)]
            for name in bound_names(tree):
                self.assertRegex(name, r"^[A-Za-z][A-Za-z0-9_]*$", path.name)
                self.assertNotIn(name, taken + dir(builtins) + NAMES_OUT, path.name)
        for path, node in nodes(ast.Name):
            self.assertNotIn(node.id, NAMES_OUT, where(path, node))
            if node.id in dir(builtins):
                self.assertIn(node.id, USABLE, where(path, node))

    def test_methods_and_values(self):
        methods = [part.name for path, node in nodes(ast.ClassDef) for part in node.body if isinstance(part, ast.FunctionDef)]
        values = []
        for path, node in nodes(ast.Attribute):
            self.assertNotIn(node.attr, NAMES_OUT, where(path, node))
            self.assertFalse(node.attr.startswith("_"), where(path, node))
            if isinstance(node.ctx, ast.Store):
                values.append(node.attr)
                self.assertTrue(node.attr not in OF_PYTHON or node.attr in VALUES, where(path, node))
        for method in methods:
            self.assertTrue(method in SPECIAL or method in METHODS or method not in OF_PYTHON, method)
            self.assertNotIn(method, values)
        for path, node in nodes(ast.Call):
            if isinstance(node.func, ast.Attribute):
                self.assertIn(node.func.attr, METHODS + methods, where(path, node))


class RuleByRule(unittest.TestCase):
    def test_the_package_keeps_to_them(self):
        for path in files():
            self.assertEqual(faults(path.read_text("ascii")), [], path.name)

    def assert_found(self, source, rule):
        self.assertIn(rule, [found for found, line in faults(source)], source)

    def in_function(self, *lines):
        return "def work(xs, d):\n" + "".join(["    " + line + "\n" for line in lines])

    def test_what_stands_at_the_top(self):
        self.assert_found("print(5)\n", "L3")
        self.assert_found("A = len(())\n", "L3")
        self.assert_found("A = 5\nfrom codeeditions.desk import answers\n", "L2")
        self.assert_found(self.in_function("from codeeditions.desk import answers"), "L2")
        self.assert_found("A = [[1], [2]]\n", "L15")
        self.assert_found("A = {}\n" + self.in_function("A[xs] = 5"), "L15")
        self.assert_found("A = []\n" + self.in_function("A.append(xs)"), "L15")
        self.assert_found("A = []\n" + self.in_function("return A"), "L15")
        self.assert_found(self.in_function("class Inner:", "    pass"), "L15")
        self.assertEqual(faults("A = (1, 2)\nB = {1: 2}\n" + self.in_function("return A[0] + B[1] + len(B)")), [])

    def test_functions_and_classes(self):
        self.assert_found("def work(xs=len):\n    return xs\n", "L4")
        self.assert_found("def work(x: int):\n    return x\n", "L21")
        self.assert_found("def work(x) -> int:\n    return x\n", "L21")
        self.assert_found("def _work(x):\n    return x\n", "L12")
        self.assert_found("class A:\n    def __init__(self):\n        return None\n", "L28")
        self.assert_found("class A:\n    def __add__(self, other):\n        return self\n", "L28")
        self.assert_found("class A:\n    pass\n\n\ndef work(x):\n    return [A, x]\n", "L18")
        self.assert_found(self.in_function("return (lambda a: a, lambda a: 1)"), "L13")

    def test_statements_and_operators(self):
        self.assert_found(self.in_function("a, b = xs", "return a"), "L6")
        self.assert_found(self.in_function("return {1, 2}"), "L7")
        self.assert_found(self.in_function("return [*xs]"), "L7")
        self.assert_found(self.in_function("return f'{xs[0]}'"), "L7")
        self.assert_found(self.in_function("raise ValueError(xs)"), "L19")
        self.assert_found(self.in_function("return xs is d"), "L20")
        self.assert_found(self.in_function("return 2 ** xs"), "L27")
        self.assertEqual(faults(self.in_function("return 2 ** 64 if xs is None else 1 << d")), [])

    def test_python_s_own(self):
        self.assert_found(self.in_function("size = len", "return size(xs)"), "L22")
        self.assert_found(self.in_function("return sorted(xs, reverse=d)"), "L22")
        self.assert_found(self.in_function("return int(xs, base=d)"), "L22")
        self.assert_found(self.in_function("ranks = range(8)", "return ranks"), "L23")
        self.assert_found(self.in_function("return d.items()"), "L23")
        self.assert_found(self.in_function("return list(zip(xs, range(5)))"), "L23")
        self.assert_found(self.in_function("for x in xs:", "    xs.append(x)"), "L23")
        self.assert_found(self.in_function("for x in d:", "    d[x] = 5"), "L23")
        self.assert_found(self.in_function("for k, x in enumerate(xs):", "    xs[k] = 5"), "L23")
        self.assert_found(self.in_function("for x in set(xs):", "    d.append(x)"), "L24")
        self.assert_found(self.in_function("seen = set(xs)", "return seen"), "L24")
        self.assert_found(self.in_function("push = xs.append", "push(d)"), "L25")
        self.assertEqual(faults(self.in_function("for x in list(d):", "    d[x] = len(set(xs))")), [])
        self.assertEqual(faults(self.in_function("return sorted(set(xs)) + [k for k, x in zip(d.items(), xs)]")), [])


if __name__ == "__main__":
    unittest.main()
