"""What the operators of the package come to, as the syntax tells it: L5 Operators and L28 of LANGUAGE.md."""

import ast
import builtins

NO_OPERATORS = ("__init__", "__iter__", "__call__", "__enter__", "__exit__", "__setitem__")
IN_PLACE = ("__iadd__", "__isub__", "__imul__", "__ifloordiv__", "__imod__", "__ipow__", "__iand__", "__ior__",
            "__ixor__", "__ilshift__", "__irshift__")
CHANGES = ("append", "clear", "extend", "insert", "pop", "remove", "reverse", "setdefault", "update")
ALWAYS_CHANGES = ("sort", "add", "discard")


class Package:
    """The functions, methods and classes of a package, and the names under which its objects keep something."""

    def __init__(self, texts):
        """texts is a dict from the names of files to what stands in them."""
        self.functions, self.methods, self.makers, self.bases = {}, {}, {}, {}
        self.kept, self.operators, self.places = set(), [], {}
        for name, text in texts.items():
            tree = ast.parse(text)
            for node in ast.walk(tree):
                self.places[node] = name
                if isinstance(node, ast.ClassDef):
                    self.take_class(node)
                if isinstance(node, ast.Attribute) and isinstance(node.ctx, ast.Store):
                    self.kept.add(node.attr)
            inside = {part for one in ast.walk(tree) if isinstance(one, ast.ClassDef) for part in one.body}
            for node in ast.walk(tree):
                if isinstance(node, ast.FunctionDef) and node not in inside:
                    self.functions.setdefault(node.name, []).append(node)

    def take_class(self, node):
        self.makers.setdefault(node.name, [])
        self.bases[node.name] = [base.id for base in node.bases if isinstance(base, ast.Name)]
        for part in node.body:
            if not isinstance(part, ast.FunctionDef):
                continue
            if part.name == "__init__":
                self.makers[node.name].append(part)
            elif not part.name.startswith("__"):
                self.methods.setdefault(part.name, []).append(part)
            if part.name.startswith("__") and part.name not in (*NO_OPERATORS, *IN_PLACE):
                self.operators.append(part)

    def made_by(self, name):
        """What runs when a class is called: its __init__, and those of the classes above it."""
        return self.makers.get(name, []) + [one for base in self.bases.get(name, []) for one in self.made_by(base)]

    def named_in(self, function):
        """All that the function may call, by the names that stand in it."""
        found = []
        for node in ast.walk(function):
            if isinstance(node, ast.Call) and isinstance(node.func, ast.Name):
                found += self.made_by(node.func.id)
            if isinstance(node, ast.Name) and isinstance(node.ctx, ast.Load):
                found += self.functions.get(node.id, [])
            if isinstance(node, ast.Attribute) and isinstance(node.ctx, ast.Load):
                found += self.methods.get(node.attr, [])
        return found

    def come_to(self):
        """The operators, and all functions and methods to which they come."""
        found = []
        left = list(self.operators)
        while left:
            function = left.pop()
            if function not in found:
                found.append(function)
                left += self.named_in(function)
        return found

    def calls(self, node, names):
        """What is wrong with a call, or None; names are the parameters and local variables around it."""
        if isinstance(node.func, ast.Attribute):
            return f"calls .{node.func.attr}, which is kept" if node.func.attr in self.kept else None
        if not isinstance(node.func, ast.Name):
            return "calls what is no name"
        known = node.func.id in self.functions or node.func.id in self.makers or hasattr(builtins, node.func.id)
        return None if known and node.func.id not in names else f"calls {node.func.id}, which is passed"

    def wrong_in(self, function):
        """What is wrong in a function to which an operator comes: what it calls of what it is passed, or changes."""
        names, own = local_names(function), own_lists(function)
        found = []
        for node in ast.walk(function):
            if isinstance(node, ast.Call):
                found.append((node, self.calls(node, names)))
            found.append((node, changes(node, own, function)))
        return [f"{self.places[node]}:{node.lineno}: {function.name} {wrong}" for node, wrong in found if wrong]

    def wrong(self):
        """All that is wrong in what the operators come to."""
        return sorted({line for function in self.come_to() for line in self.wrong_in(function)})


def parameters(function):
    """The names of the parameters of a function."""
    given = function.args
    return [one.arg for one in given.posonlyargs + given.args + given.kwonlyargs]


def local_names(function):
    """The parameters and the local variables of a function, those of what is nested in it too."""
    found = set()
    for node in ast.walk(function):
        if isinstance(node, (ast.FunctionDef, ast.Lambda)):
            found |= set(parameters(node))
        if isinstance(node, ast.Name) and isinstance(node.ctx, ast.Store):
            found.add(node.id)
    return found


def is_new(worth):
    """Whether an expression makes a list or a dict of its own, as L5 Operators lists them."""
    if isinstance(worth, ast.Call) and isinstance(worth.func, ast.Name):
        return worth.func.id in ("list", "dict", "sorted")
    return isinstance(worth, (ast.List, ast.Dict, ast.ListComp))


def own_lists(function):
    """The local variables that are assigned nothing but lists and dicts that the function itself makes."""
    made, other = set(), set(parameters(function))
    fine = set()
    for node in ast.walk(function):
        if isinstance(node, ast.Assign) and is_new(node.value):
            fine |= {target for target in node.targets if isinstance(target, ast.Name)}
    for node in ast.walk(function):
        if isinstance(node, ast.Name) and isinstance(node.ctx, ast.Store):
            (made if node in fine else other).add(node.id)
    return made - other


def is_own(node, own):
    return isinstance(node, ast.Name) and node.id in own


def changes(node, own, function):
    """What a node changes that the function did not make, or None."""
    if isinstance(node, ast.Attribute) and isinstance(node.ctx, (ast.Store, ast.Del)):
        first = parameters(function)[:1]
        # A new object is given its attributes by its __init__.
        if not (function.name == "__init__" and isinstance(node.value, ast.Name) and [node.value.id] == first):
            return f"changes .{node.attr}"
    if isinstance(node, ast.Subscript) and isinstance(node.ctx, (ast.Store, ast.Del)) and not is_own(node.value, own):
        return "changes an item of what it did not make"
    if isinstance(node, ast.Call) and isinstance(node.func, ast.Attribute):
        if node.func.attr in ALWAYS_CHANGES:
            return f"calls .{node.func.attr}"
        if node.func.attr in CHANGES and not is_own(node.func.value, own):
            return f"calls .{node.func.attr} of what it did not make"
    if isinstance(node, (ast.Nonlocal, ast.Global)):
        return "changes what stands around it"
    return None
