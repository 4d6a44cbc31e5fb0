"""The rules of the language that can be read off the files: layout, imports, names and words."""

import ast
import pathlib
import re
import unittest

PACKAGE = pathlib.Path(__file__).resolve().parent.parent / "cycleready"
PARSED = {path.name: ast.parse(path.read_text()) for path in sorted(PACKAGE.glob("*.py"))}

INTERFACE = {
    "errors.py": """LoaderError InvalidName InvalidProgram InvalidLibrary InvalidMains InvalidText InvalidModules
        InvalidNumber InvalidChoices InvalidUndo InvalidCommand UnknownModule UnknownThread NoNeed NameTaken WrongStep
        WrongState MustWait NotWaiting HasEnded StillNeeded CommandFailed TooMany Cyclic""",
    "words.py": "VARIABLES is_name is_integer is_count",
    "programs.py": "MOST_STEPS is_step is_plain check_program modules_in step_text parse_step",
}
BUILTINS = """len range enumerate zip min max sum abs sorted reversed int str bool list tuple dict set frozenset isinstance
    ord repr any all divmod iter next super property staticmethod classmethod Exception ValueError TypeError KeyError
    IndexError LookupError ZeroDivisionError ArithmeticError OverflowError RuntimeError NotImplementedError
    AttributeError StopIteration NotImplemented bytes""".split()
BARRED_WORDS = """type typing typing_extensions enum Enum IntEnum StrEnum Flag IntFlag Generic Protocol ABC ABCMeta
    namedtuple NamedTuple TypedDict TYPE_CHECKING abstractmethod""".split()
BARRED_NAMES = """register mro elements open input law version_info with_traceback add_note global eval exec getattr
    setattr hasattr delattr vars dir globals locals id chr format""".split()


def functions_in(tree):
    return [node for node in ast.walk(tree) if isinstance(node, ast.FunctionDef)]


def imports_in(tree):
    return [node for node in ast.walk(tree) if isinstance(node, (ast.Import, ast.ImportFrom))]


def defined_in(tree):
    """The names that a file defines itself, at module level."""
    names = [node.name for node in tree.body if isinstance(node, (ast.FunctionDef, ast.ClassDef))]
    return names + [target.id for node in tree.body if isinstance(node, ast.Assign) for target in node.targets]


def names_in(tree):
    """All names that a file uses or gives."""
    fields = {ast.Name: "id", ast.Attribute: "attr", ast.arg: "arg", ast.FunctionDef: "name", ast.ClassDef: "name"}
    return [getattr(node, fields[type(node)]) for node in ast.walk(tree) if type(node) in fields]


class Files(unittest.TestCase):
    def test_only_python_files(self):
        others = [path.name for path in PACKAGE.iterdir() if path.suffix != ".py" and path.name != "__pycache__"]
        self.assertEqual(others, [])
        self.assertIn("__init__.py", PARSED)

    def test_characters_and_lengths(self):
        for name in PARSED:
            text = (PACKAGE / name).read_text()
            self.assertEqual([letter for letter in text if letter != "\n" and not " " <= letter <= "~"], [], msg=name)
            self.assertLessEqual(text.count("\n"), 399, msg=name)
            self.assertLessEqual(max([len(line) for line in text.split("\n")]), 120, msg=name)

    def test_lengths_of_functions(self):
        for name, tree in PARSED.items():
            for function in functions_in(tree):
                self.assertLessEqual(function.end_lineno - function.lineno + 1, 40, msg=f"{name}, {function.name}")

    def test_barred_words(self):
        for name in PARSED:
            words = re.findall(r"\w+", (PACKAGE / name).read_text())
            self.assertEqual([word for word in words if word in BARRED_WORDS], [], msg=name)

    def test_no_percent_sign_in_strings(self):
        for name, tree in PARSED.items():
            strings = [node.value for node in ast.walk(tree) if isinstance(node, ast.Constant)]
            self.assertEqual([text for text in strings if isinstance(text, str) and "%" in text], [], msg=name)


class Names(unittest.TestCase):
    def test_the_interface_is_defined_in_its_files(self):
        for name, names in INTERFACE.items():
            self.assertEqual([word for word in names.split() if word not in defined_in(PARSED[name])], [], msg=name)

    def test_each_name_is_bound_once(self):
        for name, tree in PARSED.items():
            imported = [alias.asname or alias.name for node in imports_in(tree) for alias in node.names]
            names = defined_in(tree) + imported
            self.assertEqual(sorted(names), sorted(set(names)), msg=name)

    def test_imports_name_the_defining_file(self):
        for name, tree in PARSED.items():
            for node in imports_in(tree):
                self.assertIn(node, tree.body, msg=name)
                self.assertIsInstance(node, ast.ImportFrom, msg=name)
                package, file_name = node.module.split(".")
                self.assertEqual([package, node.level], ["cycleready", 0], msg=name)
                for alias in node.names:
                    self.assertIn(alias.name, defined_in(PARSED[f"{file_name}.py"]), msg=name)

    def test_no_barred_and_no_hidden_names(self):
        for name, tree in PARSED.items():
            for word in names_in(tree):
                self.assertNotIn(word, BARRED_NAMES, msg=name)
                if not (word.startswith("__") and word.endswith("__")):
                    self.assertFalse(word.startswith("_"), msg=f"{name}, {word}")

    def test_called_names_are_known(self):
        for name, tree in PARSED.items():
            imported = [alias.name for node in imports_in(tree) for alias in node.names]
            known = BUILTINS + defined_in(tree) + imported
            called = [node.func for node in ast.walk(tree) if isinstance(node, ast.Call)]
            self.assertEqual([node.id for node in called if isinstance(node, ast.Name) and node.id not in known], [])


if __name__ == "__main__":
    unittest.main()
