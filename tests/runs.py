"""What the operators and the properties of the package run, and L18 for what is called there.

Calls are followed by their names: a function or a class as its file knows it, a method by
every class that has one of that name. Signs, loops and texts run the double-underscore
methods of all classes.
"""

import ast

# What L5 Operators lists, and what runs with it by `==`, `len`, a loop or a text.
SIGNS = set(
    "lt le gt ge ne add sub mul floordiv mod pow and or xor lshift rshift radd rsub rmul rfloordiv rmod rand ror rxor "
    "rlshift rrshift iadd isub imul ifloordiv imod ipow iand ior ixor ilshift irshift neg pos invert abs bool contains "
    "getitem setitem".split()
)
BESIDE = {"eq", "len", "iter", "str", "repr"}
NODES = {
    "eq": (ast.Eq, ast.NotEq, ast.In, ast.NotIn), "contains": (ast.In, ast.NotIn), "or": (ast.BitOr,), "and": (ast.BitAnd,),
    "iter": (ast.For, ast.comprehension, ast.Starred), "str": (ast.FormattedValue,), "repr": (ast.FormattedValue,),
    "getitem": (ast.Subscript,), "bool": (ast.If, ast.While, ast.IfExp, ast.Not, ast.BoolOp),
}
CALLS = {"len": ("len",), "iter": ("list", "tuple", "sorted", "any", "all", "sum", "min", "max", "enumerate", "zip", "dict", "set"), "str": ("str",), "repr": ("repr",)}


def decorators(node):
    """The plain names of its decorators; those of a setter are none."""
    return {item.id for item in node.decorator_list if isinstance(item, ast.Name)}


class Code:
    """The functions, classes and methods of all files, by file and by name."""

    def __init__(self, all_trees):
        self.functions, self.classes, self.imports = {}, {}, {}
        self.methods, self.attributes, self.properties = {}, set(), {}
        self.homes = {}
        for module, tree in all_trees.items():
            self.read(module, tree)

    def read(self, module, tree):
        for node in tree.body:
            if isinstance(node, ast.FunctionDef):
                self.functions[module, node.name] = node
            elif isinstance(node, ast.ClassDef):
                self.classes[module, node.name] = node
                self.read_class(module, node)
            elif isinstance(node, ast.ImportFrom):
                for alias in node.names:
                    self.imports[module, alias.name] = (node.module or "").partition(".")[2]
        for node in ast.walk(tree):
            if isinstance(node, ast.Attribute) and isinstance(node.ctx, ast.Store):
                self.attributes.add(node.attr)
            if isinstance(node, ast.FunctionDef):
                self.homes[node] = module

    def read_class(self, module, told):
        for node in told.body:
            if isinstance(node, ast.FunctionDef):
                if "property" in decorators(node):
                    self.properties.setdefault(node.name, []).append(node)
                else:
                    self.methods.setdefault(node.name, []).append(node)

    def both(self):
        """The names that are a method of one class and an attribute of another."""
        return set(self.methods) & self.attributes

    def found(self, kept, module, name):
        """What a name of a file means among these: its own, or what it imports."""
        home = self.imports.get((module, name), module)
        return kept.get((home, name)), home

    def makers(self, module, name):
        """The __init__ that makes an object of this class, its own or a base's."""
        told, home = self.found(self.classes, module, name)
        if told is None:
            return []
        own = [node for node in told.body if isinstance(node, ast.FunctionDef) and node.name == "__init__"]
        return own or [maker for base in told.bases if isinstance(base, ast.Name) for maker in self.makers(home, base.id)]

    def doubles(self, words):
        return [node for word in words for node in self.methods.get(f"__{word}__", [])]

    def behind_call(self, module, node):
        """The functions and methods that a call runs."""
        if isinstance(node.func, ast.Attribute):
            return self.methods.get(node.func.attr, [])
        name = getattr(node.func, "id", "")
        told, _ = self.found(self.functions, module, name)
        words = [word for word, names in CALLS.items() if name in names]
        return ([told] if told is not None else []) + self.makers(module, name) + self.doubles(words)

    def behind(self, function):
        """All functions and methods that this one runs."""
        found = []
        for node in ast.walk(function):
            if isinstance(node, ast.Call):
                found += self.behind_call(self.homes[function], node)
            elif isinstance(node, ast.Attribute):
                found += self.properties.get(node.attr, [])
            found += self.doubles([word for word, kinds in NODES.items() if isinstance(node, kinds)])
        return found

    def starts(self):
        """The methods of operators, and the properties."""
        found = [node for told in self.properties.values() for node in told]
        return found + self.doubles(sorted(SIGNS | BESIDE))


def all_run(code):
    """Everything that an operator or a property runs."""
    waiting = code.starts()
    found = []
    while waiting:
        function = waiting.pop()
        if function not in found:
            found.append(function)
            waiting += code.behind(function)
    return found


def double_name_faults(all_trees):
    """Calls of a name that is a method and an attribute, in what an operator or a property runs."""
    code = Code(all_trees)
    both = code.both()
    for function in all_run(code):
        for node in ast.walk(function):
            if isinstance(node, ast.Call) and isinstance(node.func, ast.Attribute) and node.func.attr in both:
                yield f"{code.homes[function]}.py: {node.lineno}: L18 {node.func.attr} in {function.name}, which an operator or a property runs"
