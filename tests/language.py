"""A walk over one file's code that finds where it leaves ../shared/LANGUAGE.md, beside what test_language asks itself.

Where a rule is hard to follow to its end, what is asked here is narrower than the rule: no sets written out, no error
raised or taken, no method with two underscores but __init__. The program needs none of these.
"""

import ast
import builtins

WALKED = ("zip", "enumerate", "reversed", "range")
WALKED_METHODS = ("items", "keys", "values")
WALKERS = ("list", "tuple", "dict", "sorted", "sum", "any", "all", "enumerate", "zip", "min", "max")
CHANGING = ("append", "clear", "extend", "insert", "pop", "remove", "reverse", "setdefault", "update")
KEYWORDS = {"sorted": ("key", "reverse"), "min": ("key", "default"), "max": ("key", "default"), "sum": ("start",)}
KEYWORDS.update({"enumerate": ("start",), "zip": ("strict",)})
KEY_FUNCTIONS = ("len", "int", "str", "abs", "sum", "min", "max", "tuple")
READING = ("len", "list", "tuple", "dict", "sorted", "sum", "any", "all", "min", "max", "enumerate", "zip")
FRAMES = ("f_", "tb_", "co_", "gi_", "cr_")


def dotted(node):
    """The text of a name or of names with dots; "" of anything else."""
    return ast.unparse(node) if isinstance(node, (ast.Name, ast.Attribute)) else ""


def called(node):
    return node.func.id if isinstance(node, ast.Call) and isinstance(node.func, ast.Name) else ""


def is_plain(node, functions):
    """A value that a name of a file's top may have."""
    if isinstance(node, ast.Constant):
        return isinstance(node.value, (int, str, type(None)))
    if isinstance(node, ast.UnaryOp):
        return isinstance(node.op, ast.USub) and is_plain(node.operand, functions)
    if isinstance(node, ast.Name):
        return node.id in functions
    if isinstance(node, (ast.List, ast.Tuple)):
        return all(is_plain(part, functions) for part in node.elts)
    if isinstance(node, ast.Dict):
        return all(is_plain(part, functions) for part in node.keys + node.values)
    return False


class Walk:
    """One file's code with the way from each node to the one around it."""

    def __init__(self, source):
        self.tree = ast.parse(source)
        self.around = {}
        for node in ast.walk(self.tree):
            for child in ast.iter_child_nodes(node):
                self.around[child] = node
        self.nodes = list(ast.walk(self.tree))
        self.faults = []

    def of(self, *kinds):
        return [node for node in self.nodes if isinstance(node, kinds)]

    def ask(self, holds, rule, node):
        if not holds:
            self.faults.append((rule, node.lineno))

    def found(self):
        for ask in (self.top, self.functions, self.classes, self.operators, self.texts, self.errors, self.annotations):
            ask()
        for ask in (self.own_names, self.keywords, self.walked, self.changed_in_loops, self.sets, self.methods, self.kept):
            ask()
        return sorted(set(self.faults))

    def top(self):
        functions = []
        imports_end = False
        for place, node in enumerate(self.tree.body):
            if isinstance(node, ast.ImportFrom):
                self.ask(not imports_end, "L2", node)
                continue
            is_docstring = place == 0 and isinstance(node, ast.Expr) and isinstance(node.value, ast.Constant)
            imports_end = imports_end or not is_docstring
            if isinstance(node, ast.FunctionDef):
                functions.append(node.name)
            elif isinstance(node, ast.Assign):
                self.ask(isinstance(node.targets[0], ast.Name) and is_plain(node.value, functions), "L3", node)
            else:
                self.ask(is_docstring or isinstance(node, ast.ClassDef), "L3", node)
        for node in self.of(ast.ImportFrom, ast.Import):
            self.ask(node in self.tree.body, "L2", node)
        for node in self.of(ast.ClassDef):
            self.ask(node in self.tree.body, "L15", node)

    def functions(self):
        for node in self.of(ast.FunctionDef, ast.Lambda):
            for default in node.args.defaults:
                self.ask(is_plain(default, ()), "L4", node)
            if isinstance(node, ast.FunctionDef) and node.name == "__init__":
                returns = [part for part in ast.walk(node) if isinstance(part, ast.Return)]
                self.ask(not [part for part in returns if part.value is not None], "L28", node)
        lines = [(node.lineno, [arg.arg for arg in node.args.args]) for node in self.of(ast.Lambda)]
        for node in self.of(ast.Lambda):
            self.ask(lines.count((node.lineno, [arg.arg for arg in node.args.args])) == 1, "L13", node)

    def classes(self):
        own = [node.name for node in self.of(ast.ClassDef)]
        for node in self.of(ast.ClassDef):
            methods = [part.name for part in node.body if isinstance(part, ast.FunctionDef)]
            self.ask(len(methods) == len(set(methods)), "L18", node)
            self.ask(not [name for name in methods if name.startswith("_") and name != "__init__"], "L28", node)
        for node in self.of(ast.Name):
            if node.id in own:
                outer = self.around[node]
                is_called = isinstance(outer, ast.Call) and outer.func is node
                asked_of = called(outer) == "isinstance"
                self.ask(is_called or asked_of or isinstance(outer, ast.ClassDef), "L18", node)

    def operators(self):
        for node in self.of(ast.Compare):
            for op, other in zip(node.ops, node.comparators):
                if isinstance(op, (ast.Is, ast.IsNot)):
                    self.ask(isinstance(other, ast.Constant) and other.value in (None, True, False), "L20", node)
        for node in self.of(ast.BinOp, ast.AugAssign):
            if isinstance(node.op, ast.Pow):
                power = node.right if isinstance(node, ast.BinOp) else node.value
                self.ask(isinstance(power, ast.Constant) and power.value in range(65), "L27", node)
        for node in self.of(ast.Assign):
            self.ask(isinstance(node.targets[0], (ast.Name, ast.Attribute, ast.Subscript)), "L6", node)
        for node in self.of(ast.Set, ast.Starred):
            self.ask(False, "L7", node)

    def texts(self):
        for node in self.of(ast.FormattedValue):
            self.ask(isinstance(node.value, ast.Name) and node.format_spec is None and node.conversion in (-1, 114), "L7", node)
        for node in self.of(ast.Constant):
            if isinstance(node.value, str):
                self.ask(all(sign == "\n" or " " <= sign <= "~" for sign in node.value.replace("\t", "")), "L27", node)
            elif isinstance(node.value, int):
                self.ask(abs(node.value) < 10**900, "L27", node)

    def errors(self):
        for node in self.of(ast.Try, ast.Raise):
            self.ask(False, "L19", node)

    def annotations(self):
        for node in self.of(ast.arg):
            self.ask(node.annotation is None, "L21", node)
        for node in self.of(ast.FunctionDef):
            self.ask(node.returns is None, "L21", node)
        for node in self.of(ast.AnnAssign):
            self.ask(False, "L21", node)

    def own_names(self):
        """Python's own names are called where they stand, or are the key of a sorted, min or max."""
        for node in self.of(ast.Name):
            if hasattr(builtins, node.id):
                outer = self.around[node]
                is_called = isinstance(outer, ast.Call) and outer.func is node
                is_key = isinstance(outer, ast.keyword) and outer.arg == "key" and node.id in KEY_FUNCTIONS
                in_tuple = isinstance(outer, ast.Tuple) and called(self.around[outer]) == "isinstance"
                self.ask(is_called or is_key or in_tuple or called(outer) == "isinstance", "L22", node)
        for node in self.of(ast.FunctionDef, ast.ClassDef):
            self.ask(not hasattr(builtins, node.name) or not isinstance(self.around[node], ast.Module), "L8", node)
            self.ask(node.name == "__init__" or not node.name.startswith("_"), "L12", node)
        for node in self.of(ast.Attribute):
            self.ask(not node.attr.startswith(FRAMES) and not node.attr.startswith("_"), "L17", node)

    def keywords(self):
        for node in self.of(ast.Call):
            for keyword in node.keywords:
                if isinstance(node.func, ast.Attribute) or hasattr(builtins, called(node)):
                    self.ask(keyword.arg in KEYWORDS.get(called(node), ()), "L22", node)
                if keyword.arg in ("reverse", "strict"):
                    self.ask(isinstance(keyword.value, ast.Constant), "L22", node)

    def is_walked(self, node):
        outer = self.around[node]
        if isinstance(outer, (ast.For, ast.comprehension)):
            return outer.iter is node
        if isinstance(outer, ast.Call) and outer.args and outer.args[0] is node:
            if called(outer) in ("min", "max"):
                return len(outer.args) == 1
            joins = isinstance(outer.func, ast.Attribute) and outer.func.attr == "join"
            return called(outer) in WALKERS or (joins and isinstance(outer.func.value, ast.Constant))
        return False

    def walked(self):
        for node in self.of(ast.Call):
            by_method = isinstance(node.func, ast.Attribute) and node.func.attr in WALKED_METHODS
            if called(node) in WALKED or by_method:
                self.ask(self.is_walked(node), "L23", node)

    def walked_names(self, walked):
        """The names of what a loop goes through, itself or by way of enumerate, zip, reversed and the like."""
        if isinstance(walked, ast.Call) and called(walked) in ("enumerate", "zip", "reversed"):
            return [name for part in walked.args for name in self.walked_names(part)]
        if isinstance(walked, ast.Call) and isinstance(walked.func, ast.Attribute) and walked.func.attr in WALKED_METHODS:
            return self.walked_names(walked.func.value)
        return [dotted(walked)] if dotted(walked) else []

    def changed_in_loops(self):
        for loop in self.of(ast.For):
            names = self.walked_names(loop.iter)
            for node in [part for statement in loop.body for part in ast.walk(statement)]:
                if isinstance(node, ast.Subscript) and isinstance(node.ctx, ast.Store):
                    self.ask(dotted(node.value) not in names, "L23", node)
                if isinstance(node, ast.Call) and isinstance(node.func, ast.Attribute) and node.func.attr in CHANGING:
                    self.ask(dotted(node.func.value) not in names, "L23", node)
                if isinstance(node, ast.AugAssign):
                    self.ask(dotted(node.target) not in names, "L23", node)

    def sets(self):
        for node in self.of(ast.Call):
            if called(node) in ("set", "frozenset"):
                outer = self.around[node]
                while isinstance(outer, ast.BinOp) and isinstance(outer.op, (ast.Sub, ast.BitAnd, ast.BitOr, ast.BitXor)):
                    outer = self.around[outer]
                beside = isinstance(outer, ast.Compare)
                self.ask(beside or (called(outer) in ("sorted", "len") and not outer.keywords), "L24", node)

    def methods(self):
        """A method of Python's own is called where it stands."""
        own = [name for kind in (str, int, list, dict) for name in dir(kind)]
        for node in self.of(ast.Attribute):
            outer = self.around[node]
            is_called = isinstance(outer, ast.Call) and outer.func is node
            self.ask(is_called or node.attr not in own, "L25", node)

    def kept(self):
        """A list or dict of a file's top has none within it, and is only read."""
        lists = {}
        for node in self.tree.body:
            if isinstance(node, ast.Assign) and isinstance(node.value, (ast.List, ast.Dict)):
                lists[node.targets[0].id] = node
                inner = [part for part in ast.walk(node.value) if isinstance(part, (ast.List, ast.Dict))]
                self.ask(inner == [node.value], "L15", node)
        for node in self.of(ast.Name):
            if node.id in lists and self.around[node] is not lists[node.id]:
                self.ask(self.is_read(node), "L15", node)

    def is_read(self, node):
        outer = self.around[node]
        if isinstance(outer, ast.Subscript):
            return outer.value is node and isinstance(outer.ctx, ast.Load)
        if isinstance(outer, ast.Attribute):
            return outer.attr in ("get", "items", "keys", "values", "count", "index", "copy")
        if isinstance(outer, (ast.For, ast.comprehension)):
            return outer.iter is node
        return isinstance(outer, ast.Compare) or called(outer) in READING


def faults(source):
    """The rules that a file leaves, each with the line."""
    return Walk(source).found()
