"""The rules of the language subset that a test can see plainly."""

import ast
import os
import unittest

FOLDER = os.path.join(os.path.dirname(os.path.dirname(os.path.abspath(__file__))), "sawrounds")

BUILTINS = {
    "len", "range", "enumerate", "zip", "min", "max", "sum", "abs", "sorted", "reversed", "int", "str", "bool",
    "list", "tuple", "dict", "set", "isinstance", "ord", "repr", "any", "all", "divmod", "type", "super",
    "ValueError", "KeyError", "IndexError", "True", "False", "None",
}

LIBRARY = {("math", "gcd"), ("math", "lcm")}


def files():
    """The package's files: their names, texts and trees."""
    found = []
    for name in sorted(os.listdir(FOLDER)):
        if name != "__pycache__":
            with open(os.path.join(FOLDER, name), encoding="utf-8") as held:
                text = held.read()
            found.append((name, text, ast.parse(text)))
    return found


def bound_names(tree):
    """All names that are bound somewhere in the tree."""
    names = set()
    for node in ast.walk(tree):
        if isinstance(node, (ast.FunctionDef, ast.ClassDef)):
            names.add(node.name)
        elif isinstance(node, ast.arg):
            names.add(node.arg)
        elif isinstance(node, ast.alias):
            names.add(node.asname or node.name)
        elif isinstance(node, ast.Name) and isinstance(node.ctx, ast.Store):
            names.add(node.id)
    return names


class Language(unittest.TestCase):
    def test_files(self):
        self.assertTrue(files())
        for name, text, _ in files():
            with self.subTest(name=name):
                self.assertRegex(name, r"^[a-z_]+\.py$")
                self.assertTrue(all(sign == "\n" or " " <= sign <= "~" for sign in text))
                rows = text.split("\n")
                self.assertLessEqual(len(rows), 399)
                self.assertLessEqual(max(map(len, rows)), 120)

    def test_functions(self):
        for name, _, tree in files():
            for node in ast.walk(tree):
                if isinstance(node, ast.FunctionDef):
                    with self.subTest(name=name, function=node.name):
                        self.assertLessEqual(node.end_lineno - node.lineno + 1, 40)
                        self.assertEqual(node.decorator_list, [])

    def test_imports(self):
        modules = {name[:-3] for name, _, _ in files()}
        for name, _, tree in files():
            for node in ast.walk(tree):
                self.assertNotIsInstance(node, ast.Import)
                if isinstance(node, ast.ImportFrom):
                    with self.subTest(name=name, line=node.lineno):
                        self.assertEqual(node.level, 0)
                        self.assertIn(node, tree.body)
                        first, _, last = node.module.partition(".")
                        for alias in node.names:
                            self.assertIsNone(alias.asname)
                            if first == "sawrounds":
                                self.assertIn(last, modules)
                            else:
                                self.assertIn((node.module, alias.name), LIBRARY)

    def test_names(self):
        for name, _, tree in files():
            bound = bound_names(tree)
            self.assertEqual(bound & BUILTINS, set())
            for node in ast.walk(tree):
                if isinstance(node, ast.Name) and isinstance(node.ctx, ast.Load):
                    with self.subTest(name=name, line=node.lineno):
                        self.assertIn(node.id, bound | BUILTINS)

    def test_no_name_of_an_import_is_given_another_meaning(self):
        for name, _, tree in files():
            imported = {alias.name for node in tree.body if isinstance(node, ast.ImportFrom) for alias in node.names}
            defined = [node.name for node in tree.body if isinstance(node, (ast.FunctionDef, ast.ClassDef))]
            self.assertEqual(len(defined), len(set(defined)))
            for node in ast.walk(tree):
                with self.subTest(name=name, line=getattr(node, "lineno", None)):
                    if isinstance(node, ast.FunctionDef):
                        self.assertNotIn(node.name, imported)
                    elif isinstance(node, ast.arg):
                        self.assertNotIn(node.arg, imported | set(defined))
                    elif isinstance(node, ast.Name) and isinstance(node.ctx, ast.Store):
                        self.assertNotIn(node.id, imported | set(defined))

    def test_each_import_is_of_the_file_that_defines_it(self):
        defined = {}
        for name, _, tree in files():
            for node in tree.body:
                if isinstance(node, (ast.FunctionDef, ast.ClassDef)):
                    defined[name[:-3], node.name] = node
                elif isinstance(node, ast.Assign):
                    defined[name[:-3], node.targets[0].id] = node
        for name, _, tree in files():
            for node in tree.body:
                if isinstance(node, ast.ImportFrom) and node.module != "math":
                    for alias in node.names:
                        with self.subTest(name=name, alias=alias.name):
                            self.assertIn((node.module.partition(".")[2], alias.name), defined)

    def test_signs(self):
        for name, _, tree in files():
            for node in ast.walk(tree):
                with self.subTest(name=name, line=getattr(node, "lineno", None)):
                    if isinstance(node, ast.BinOp) and isinstance(node.op, ast.Pow):
                        self.assertIsInstance(node.right, ast.Constant)
                        self.assertIn(node.right.value, range(65))
                    elif isinstance(node, ast.Compare) and isinstance(node.ops[0], (ast.Is, ast.IsNot)):
                        self.assertIsInstance(node.comparators[0], ast.Constant)
                        self.assertIn(node.comparators[0].value, (None, True, False))
                    elif isinstance(node, ast.Name) and node.id == "_":
                        self.assertIsInstance(node.ctx, ast.Store)

    def test_module_level(self):
        for name, _, tree in files():
            for node in tree.body:
                with self.subTest(name=name, line=node.lineno):
                    if isinstance(node, ast.Expr):
                        self.assertIsInstance(node.value, ast.Constant)
                    else:
                        self.assertIsInstance(node, (ast.ImportFrom, ast.FunctionDef, ast.ClassDef, ast.Assign))

    def test_values(self):
        for name, _, tree in files():
            for node in ast.walk(tree):
                with self.subTest(name=name):
                    self.assertNotIsInstance(node, (ast.Div, ast.Global))
                    if isinstance(node, ast.Constant):
                        self.assertNotIsInstance(node.value, (float, complex))
                        if isinstance(node.value, str):
                            self.assertNotIn("%", node.value)


if __name__ == "__main__":
    unittest.main()
