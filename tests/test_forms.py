"""What operators and properties reach by its name, in whatever class of the package, changes nothing."""

import ast
import pathlib
import unittest

FOLDER = pathlib.Path(__file__).resolve().parent.parent / "silentlinks"

# An operator or a property is no one's call: it must be safe wherever it stands.
CALLS = ("__init__", "__call__", "__enter__", "__exit__", "__iter__")
MODIFIERS = (
    "append", "add", "clear", "discard", "extend", "insert", "pop", "popitem", "remove", "reverse", "setdefault",
    "sort", "update", "appendleft", "popleft",
)
FRESH_CALLS = ("list", "dict", "set", "sorted")


def parsed(sources):
    """The functions and the methods by their names, each a list, of the texts of some files."""
    functions, methods = {}, {}
    for text in sources:
        tree = ast.parse(text)
        for node in tree.body:
            if isinstance(node, ast.FunctionDef):
                functions.setdefault(node.name, []).append(node)
            elif isinstance(node, ast.ClassDef):
                for method in [m for m in node.body if isinstance(m, ast.FunctionDef)]:
                    methods.setdefault(method.name, []).append(method)
                    if method.name == "__init__":
                        functions.setdefault(node.name, []).append(method)
    return functions, methods


def is_property(method):
    return any(isinstance(row, ast.Name) and row.id == "property" for row in method.decorator_list)


def is_root(method):
    operator = method.name.startswith("__") and method.name not in CALLS
    return operator or is_property(method)


def reached(functions, methods):
    """All functions and methods that an operator or a property reaches, by the names that are called or read."""
    left = [method for rows in methods.values() for method in rows if is_root(method)]
    found = []
    while left:
        node = left.pop()
        if node in found:
            continue
        found.append(node)
        for inner in ast.walk(node):
            if isinstance(inner, ast.Call) and isinstance(inner.func, ast.Name):
                left += functions.get(inner.func.id, [])
            elif isinstance(inner, ast.Call) and isinstance(inner.func, ast.Attribute):
                left += methods.get(inner.func.attr, [])
    return found


def is_fresh(value):
    kinds = (ast.List, ast.ListComp, ast.Dict, ast.DictComp, ast.Set, ast.SetComp, ast.BinOp)
    called = isinstance(value, ast.Call) and isinstance(value.func, ast.Name) and value.func.id in FRESH_CALLS
    return isinstance(value, kinds) or called


def created(node):
    """The names of the lists, dicts and sets that a function creates itself."""
    given = [(inner.targets[0].id, inner.value) for inner in ast.walk(node)
             if isinstance(inner, ast.Assign) and isinstance(inner.targets[0], ast.Name)]
    return {name for name, _ in given if all(is_fresh(value) for other, value in given if other == name)}


def root_name(node):
    while isinstance(node, (ast.Subscript, ast.Attribute)):
        node = node.value
    return node.id if isinstance(node, ast.Name) else None


def changes(node):
    """The lines in which a function changes something that it did not create itself."""
    own = created(node)
    lines = []
    for inner in ast.walk(node):
        targets = []
        if isinstance(inner, ast.Assign):
            targets = inner.targets
        elif isinstance(inner, (ast.AugAssign, ast.AnnAssign)):
            targets = [inner.target]
        elif isinstance(inner, ast.Delete):
            targets = inner.targets
        elif isinstance(inner, ast.Call) and isinstance(inner.func, ast.Attribute) and inner.func.attr in MODIFIERS:
            targets = [inner.func]
        for target in [row for whole in targets for row in ast.walk(whole)]:
            if not isinstance(target, (ast.Attribute, ast.Subscript)):
                continue
            new_object = node.name == "__init__" and root_name(target) == "self" and isinstance(target, ast.Attribute)
            if root_name(target) not in own and not new_object:
                lines.append(inner.lineno)
    return lines


def faults(sources):
    return sorted({(node.name, line) for node in reached(*parsed(sources)) for line in changes(node)})


class Forms(unittest.TestCase):
    def test_operators_and_properties_change_nothing(self):
        sources = [path.read_text() for path in sorted(FOLDER.glob("*.py"))]
        functions, methods = parsed(sources)
        names = {node.name for node in reached(functions, methods)}
        self.assertLessEqual({"__add__", "__sub__", "keepable", "fits_houses", "fits", "first_foes"}, names)
        self.assertEqual(faults(sources), [])

    def test_a_change_is_seen(self):
        one = "class A:\n    def __add__(self, other):\n        return f(self)\n\n\ndef f(a):\n    return a.fits(1)\n"
        other = "class B:\n    def fits(self, x):\n        self.steps += 1\n        return True\n"
        self.assertEqual(faults([one]), [])
        self.assertEqual(faults([one, other]), [("fits", 3)])
        calm = "class B:\n    def fits(self, x):\n        rows = []\n        rows.append(x)\n        return rows\n"
        self.assertEqual(faults([one, calm]), [])
        told = "class C:\n    @property\n    def many(self):\n        self.rows.append(1)\n        return 1\n"
        self.assertEqual(faults([told]), [("many", 4)])


if __name__ == "__main__":
    unittest.main()
