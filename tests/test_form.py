"""The interface's names stand in their files, the files keep the subset's form, and README's examples hold."""

import ast
import builtins
import doctest
import pathlib
import unittest

FOLDER = pathlib.Path(__file__).resolve().parent.parent / "pairclubs"

# The builtins that the subset has; none of them reads a clock, a random source or a file.
BUILTINS = (
    "len range enumerate zip min max sum abs sorted reversed int str bool bytes list tuple dict set frozenset "
    "isinstance ord repr any all divmod pow getattr hasattr setattr iter next map type super property "
    "staticmethod classmethod object NotImplemented Exception ValueError TypeError KeyError IndexError LookupError "
    "ZeroDivisionError ArithmeticError OverflowError RuntimeError NotImplementedError AttributeError StopIteration"
).split()

# Each function with its parameters; each class with None.
INTERFACE = {
    "errors.py": {
        "ClubError": None, "BadTown": None, "BadPerson": None, "BadClub": None, "BadNumber": None,
        "NotPairs": None, "Doubled": None, "NoClub": None, "NoStep": None, "BadText": None, "BadLine": None,
    },
    "towns.py": {
        "is_town": ["value"], "members": ["town"], "clubs_of": ["town", "person"],
        "together": ["town", "one", "other"],
    },
    "pairs.py": {"is_pair_town": ["town"], "missing": ["town"], "doubled": ["town"]},
    "kinds.py": {"surplus": ["town"], "kinds": ["town"], "close": ["town"]},
    "finishes.py": {
        "can_add": ["town", "club"], "finished": ["town"], "least_finished": ["town"],
        "shows_least_finished": ["town", "value"],
    },
    "shares.py": {"shares": ["town"], "is_evenly_shared": ["town"], "turned": ["town"]},
    "lists.py": {"pair_towns": ["people"], "counts_by_clubs": ["people"]},
    "planes.py": {"pencil": ["people"], "plane": ["prime"]},
    "foundings.py": {"Founding": None},
    "towntexts.py": {"write_town": ["town"], "read_town": ["text"]},
}

# Each method of the interface's class with its parameters, and its properties.
METHODS = {"__init__": ["self", "people"], "add": ["self", "club"], "undo": ["self"], "missing": ["self"]}
PROPERTIES = ["added", "town"]


def parameters(node):
    if isinstance(node, ast.ClassDef):
        return None
    return [parameter.arg for parameter in node.args.args]


def tree_of(path):
    return ast.parse(path.read_text(encoding="ascii"))


class InterfaceTests(unittest.TestCase):

    def test_names_are_defined_in_their_files(self):
        for name, listed in INTERFACE.items():
            defined = {
                node.name: parameters(node)
                for node in tree_of(FOLDER / name).body if isinstance(node, (ast.FunctionDef, ast.ClassDef))
            }
            for wanted, arguments in listed.items():
                with self.subTest(file=name, name=wanted):
                    self.assertIn(wanted, defined)
                    self.assertEqual(defined[wanted], arguments)

    def test_methods_are_defined_in_their_class(self):
        classes = [node for node in tree_of(FOLDER / "foundings.py").body if isinstance(node, ast.ClassDef)]
        self.assertEqual([node.name for node in classes], ["Founding"])
        functions = [node for node in classes[0].body if isinstance(node, ast.FunctionDef)]
        decorated = {node.name: [ast.unparse(word) for word in node.decorator_list] for node in functions}
        self.assertEqual({node.name: parameters(node) for node in functions if not decorated[node.name]}, METHODS)
        self.assertEqual(sorted(name for name in decorated if decorated[name] == ["property"]), PROPERTIES)


class FormTests(unittest.TestCase):

    def files(self):
        return sorted(FOLDER.glob("*.py"))

    def test_the_folder_holds_only_python_files(self):
        others = [path.name for path in FOLDER.iterdir() if path.suffix != ".py" and path.name != "__pycache__"]
        self.assertEqual(others, [])
        self.assertTrue((FOLDER / "__init__.py").is_file())

    def test_characters_and_sizes(self):
        for path in self.files():
            with self.subTest(path.name):
                text = path.read_text(encoding="utf-8")
                self.assertEqual([c for c in text if c != "\n" and not " " <= c <= "~"], [])
                self.assertLessEqual(len(text.splitlines()), 399)
                self.assertLessEqual(max(len(line) for line in text.splitlines()), 120)

    def test_functions_have_at_most_forty_lines(self):
        for path in self.files():
            for node in ast.walk(tree_of(path)):
                if isinstance(node, ast.FunctionDef):
                    with self.subTest(file=path.name, name=node.name):
                        self.assertLessEqual(node.end_lineno - node.lineno + 1, 40)

    def test_imports_are_from_the_package(self):
        for path in self.files():
            for node in ast.walk(tree_of(path)):
                with self.subTest(file=path.name):
                    self.assertNotIsInstance(node, ast.Import)
                    if isinstance(node, ast.ImportFrom):
                        self.assertEqual(node.level, 0)
                        self.assertTrue(node.module.startswith("pairclubs."))

    def test_builtins_are_those_of_the_subset(self):
        for path in self.files():
            names = [node.id for node in ast.walk(tree_of(path)) if isinstance(node, ast.Name)]
            with self.subTest(path.name):
                self.assertEqual([name for name in names if hasattr(builtins, name) and name not in BUILTINS], [])


class ReadmeTests(unittest.TestCase):

    def test_examples(self):
        told = doctest.testfile(str(FOLDER.parent / "README.md"), module_relative=False)
        self.assertEqual(told.failed, 0)
        self.assertGreater(told.attempted, 0)


if __name__ == "__main__":
    unittest.main()
