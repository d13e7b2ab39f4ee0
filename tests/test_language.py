"""Some rules of the language subset that a look at the files can tell."""

import ast
import pathlib
import unittest
import warnings

PACKAGE = pathlib.Path(__file__).resolve().parent.parent / "wheelways"

# What the interface lists, file by file.
INTERFACE = {
    "errors.py": ["WheelError", "BadWheels", "BadSetting", "BadNumber", "NoRing", "BadText"],
    "wheels.py": ["settings", "near", "apart"],
    "forth.py": ["setting_of", "number_of"],
    "answers.py": ["Answer", "Around", "Dead", "Odd"],
    "around.py": ["around", "ring_setting", "ring_number"],
    "texts.py": ["written", "read"],
}

# What the interface lists, door by door.
ARGUMENTS = {
    "settings": ["wheels"],
    "near": ["wheels", "setting"],
    "apart": ["wheels", "one", "other"],
    "setting_of": ["wheels", "number"],
    "number_of": ["wheels", "setting"],
    "around": ["wheels"],
    "ring_setting": ["wheels", "number"],
    "ring_number": ["wheels", "setting"],
    "written": ["wheels", "setting"],
    "read": ["text"],
}

BUILTINS = {
    "len", "range", "enumerate", "zip", "min", "max", "sum", "abs", "sorted", "reversed", "int",
    "str", "bool", "list", "tuple", "dict", "set", "isinstance", "ord", "repr", "any", "all",
    "divmod", "pow", "ValueError", "KeyError",
}


def files():
    return sorted(PACKAGE.rglob("*.py"))


def tree_of(path):
    return ast.parse(path.read_text(encoding="utf-8"))


def calls_of_names(tree):
    """The bare names that are called."""
    return {node.func.id for node in ast.walk(tree)
            if isinstance(node, ast.Call) and isinstance(node.func, ast.Name)}


def own_names(tree):
    """The names that a file defines or imports."""
    found = set()
    for node in ast.walk(tree):
        if isinstance(node, (ast.FunctionDef, ast.ClassDef)):
            found.add(node.name)
        elif isinstance(node, ast.ImportFrom):
            found.update(alias.name for alias in node.names)
    return found


class Language(unittest.TestCase):
    def test_the_folder_holds_python_files_alone(self):
        for path in PACKAGE.rglob("*"):
            if "__pycache__" not in path.parts:
                self.assertEqual(path.suffix, ".py", path)

    def test_characters_and_sizes(self):
        for path in files():
            text = path.read_text(encoding="utf-8")
            lines = text.splitlines()
            self.assertLessEqual(len(lines), 399, path)
            self.assertTrue(all(len(line) <= 120 for line in lines), path)
            self.assertTrue(all(" " <= sign <= "~" or sign == "\n" for sign in text), path)
            for node in ast.walk(tree_of(path)):
                if isinstance(node, ast.FunctionDef):
                    self.assertLessEqual(node.end_lineno - node.lineno + 1, 40, node.name)

    def test_imports_are_of_the_package_alone(self):
        for path in files():
            tree = tree_of(path)
            for node in ast.walk(tree):
                self.assertNotIsInstance(node, ast.Import, path)
                if isinstance(node, ast.ImportFrom):
                    self.assertIn(node, tree.body)
                    self.assertEqual((node.level, node.module.split(".")[0]), (0, "wheelways"))
                    defined = PACKAGE / (node.module.split(".")[1] + ".py")
                    names = {part.name for part in tree_of(defined).body
                             if isinstance(part, (ast.FunctionDef, ast.ClassDef))}
                    self.assertLessEqual({alias.name for alias in node.names}, names)

    def test_no_other_builtins_are_called(self):
        for path in files():
            tree = tree_of(path)
            self.assertLessEqual(calls_of_names(tree) - own_names(tree), BUILTINS, path)

    def test_no_fractions(self):
        for path in files():
            for node in ast.walk(tree_of(path)):
                self.assertNotIsInstance(node, ast.Div, path)
                if isinstance(node, ast.Constant):
                    self.assertNotIsInstance(node.value, (float, complex), path)

    def test_python_gives_no_warning(self):
        for path in files():
            with warnings.catch_warnings():
                warnings.simplefilter("error")
                compile(path.read_text(encoding="utf-8"), str(path), "exec")

    def test_the_interface_stands_where_it_is_listed(self):
        for name, due in INTERFACE.items():
            defined = {node.name for node in tree_of(PACKAGE / name).body
                       if isinstance(node, (ast.FunctionDef, ast.ClassDef))}
            self.assertLessEqual(set(due), defined, name)

    def test_arguments_are_called_as_listed(self):
        found = {}
        for path in files():
            for node in tree_of(path).body:
                if isinstance(node, ast.FunctionDef) and node.name in ARGUMENTS:
                    found[node.name] = [arg.arg for arg in node.args.args]
        self.assertEqual(found, ARGUMENTS)

    def test_each_answer_has_its_methods_in_itself(self):
        methods = {}
        for node in tree_of(PACKAGE / "answers.py").body:
            if isinstance(node, ast.ClassDef):
                methods[node.name] = {part.name: [arg.arg for arg in part.args.args]
                                      for part in node.body if isinstance(part, ast.FunctionDef)}
        shows = ["self", "wheels"]
        self.assertEqual(methods["Around"], {"shows": shows})
        self.assertEqual(methods["Odd"], {"shows": shows})
        self.assertEqual(methods["Dead"], {"shows": shows, "__init__": ["self", "setting"]})


if __name__ == "__main__":
    unittest.main()
