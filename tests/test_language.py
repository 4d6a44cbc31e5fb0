"""The rules of the language that can be read off the files: layout, imports, names and words."""

import ast
import pathlib
import re
import unittest

PACKAGE = pathlib.Path(__file__).resolve().parent.parent / "cycleready"
PARSED = {path.name: ast.parse(path.read_text()) for path in sorted(PACKAGE.glob("*.py"))}

INTERFACE = {
    "errors.py": """LoaderError InvalidName InvalidProgram InvalidLibrary InvalidMains InvalidText InvalidModules
        InvalidNumber InvalidChoices InvalidUndo InvalidCommand UnknownModule UnknownThread NoNeed NameTaken WrongStep
        WrongState MustWait NotWaiting HasEnded StillNeeded CommandFailed TooMany Cyclic""",
    "words.py": "VARIABLES is_name is_integer is_count",
    "programs.py": "MOST_STEPS is_step is_plain check_program modules_in step_text parse_step",
    "library.py": "Library MOST_MODULES",
    "library_text.py": "library_text load_library",
    "needs.py": "Needs",
    "frames.py": "Frame",
    "registry.py": "Registry",
    "plain.py": "plain_run plain_order",
    "world.py": "World run MOST_THREADS",
    "certificates.py": """waiting_path is_waiting_path early_path is_early_path ready_list is_ready_list unready_path
        is_unready_path failure_chain is_failure_chain""",
    "explore.py": "MAX_STATES count_states schedules final_outcomes early_pairs first_schedule is_decided",
    "history_text.py": "dump_history replay",
    "console.py": "Console",
}
METHODS = {
    "Library": "__init__ __eq__ __len__ __repr__ of modules has_module initializer",
    "Needs": """__init__ __eq__ __len__ __repr__ __str__ of record delete delete_all pairs targets sources depends closure
        group path cycle_through is_acyclic clone""",
    "Frame": "__init__ __eq__ __len__ next_step next_index variables is_over run_plain pass_step clone",
    "Registry": """__init__ __eq__ __len__ is_state names state_of in_state request answer access export exports value_of
        finish fail chain is_held release retry unload needs recorded early clone""",
    "World": """__init__ __eq__ __len__ add_thread threads library act stack status variables next_step waits_for can_run
        state_of exports chain needs recorded early frame_of outcome events retry unload history undo clone""",
    "Console": "__init__ world limit answer answer_all",
}
BUILTIN_METHODS = """append clear copy count endswith extend find get index insert isalnum isalpha isdigit islower isspace
    isupper items join keys ljust lower lstrip partition pop remove replace reverse rfind rjust rpartition rsplit rstrip
    setdefault split splitlines startswith strip update upper values zfill bit_length removeprefix removesuffix""".split()
BUILTINS = """len range enumerate zip min max sum abs sorted reversed int str bool list tuple dict set frozenset isinstance
    ord repr any all divmod iter next super property staticmethod classmethod Exception ValueError TypeError KeyError
    IndexError LookupError ZeroDivisionError ArithmeticError OverflowError RuntimeError NotImplementedError
    AttributeError StopIteration NotImplemented bytes""".split()
BARRED_WORDS = """type typing typing_extensions enum Enum IntEnum StrEnum Flag IntFlag Generic Protocol ABC ABCMeta
    namedtuple NamedTuple TypedDict TYPE_CHECKING abstractmethod""".split()
BARRED_NAMES = """register mro elements open input law version_info with_traceback add_note global eval exec getattr
    setattr hasattr delattr vars dir globals locals id chr format""".split()


def functions_in(tree):
    return [node for node in ast.walk(tree) if isinstance(node, ast.FunctionDef)]


def imports_in(tree):
    return [node for node in ast.walk(tree) if isinstance(node, (ast.Import, ast.ImportFrom))]


def defined_in(tree):
    """The names that a file defines itself, at module level."""
    names = [node.name for node in tree.body if isinstance(node, (ast.FunctionDef, ast.ClassDef))]
    return names + [target.id for node in tree.body if isinstance(node, ast.Assign) for target in node.targets]


def classes_in(tree):
    return [node for node in tree.body if isinstance(node, ast.ClassDef)]


def is_setter(method):
    return any(isinstance(node, ast.Attribute) and node.attr == "setter" for node in method.decorator_list)


def is_property(method):
    return any(isinstance(node, ast.Name) and node.id == "property" for node in method.decorator_list)


def methods_in(node):
    """The names of the methods and properties that stand in the body of a class itself; a setter does not count."""
    return [method.name for method in node.body if isinstance(method, ast.FunctionDef) and not is_setter(method)]


def properties():
    """The names of all properties: another class may have an attribute that is called so."""
    methods = [method for tree in PARSED.values() for node in classes_in(tree) for method in functions_in(node)]
    return [method.name for method in methods if is_property(method)]


def class_values():
    """The names of the values that stand in the body of a class."""
    rows = [row for tree in PARSED.values() for node in classes_in(tree) for row in node.body]
    return [target.id for row in rows if isinstance(row, ast.Assign) for target in row.targets]


def all_methods():
    return [name for tree in PARSED.values() for node in classes_in(tree) for name in methods_in(node)]


def attributes_in(tree, context):
    """The names of the attributes that a file reads, or that it assigns."""
    nodes = [node for node in ast.walk(tree) if isinstance(node, ast.Attribute)]
    return [node.attr for node in nodes if isinstance(node.ctx, context)]


def names_in(tree):
    """All names that a file uses or gives."""
    fields = {ast.Name: "id", ast.Attribute: "attr", ast.arg: "arg", ast.FunctionDef: "name", ast.ClassDef: "name"}
    return [getattr(node, fields[type(node)]) for node in ast.walk(tree) if type(node) in fields]


class Files(unittest.TestCase):
    def test_only_python_files(self):
        others = [path.name for path in PACKAGE.iterdir() if path.suffix != ".py" and path.name != "__pycache__"]
        self.assertEqual(others, [])
        self.assertIn("__init__.py", PARSED)

    def test_characters_and_lengths(self):
        for name in PARSED:
            text = (PACKAGE / name).read_text()
            self.assertEqual([letter for letter in text if letter != "\n" and not " " <= letter <= "~"], [], msg=name)
            self.assertLessEqual(text.count("\n"), 399, msg=name)
            self.assertLessEqual(max([len(line) for line in text.split("\n")]), 120, msg=name)

    def test_lengths_of_functions(self):
        for name, tree in PARSED.items():
            for function in functions_in(tree):
                self.assertLessEqual(function.end_lineno - function.lineno + 1, 40, msg=f"{name}, {function.name}")

    def test_barred_words(self):
        for name in PARSED:
            words = re.findall(r"\w+", (PACKAGE / name).read_text())
            self.assertEqual([word for word in words if word in BARRED_WORDS], [], msg=name)

    def test_no_percent_sign_in_strings(self):
        for name, tree in PARSED.items():
            strings = [node.value for node in ast.walk(tree) if isinstance(node, ast.Constant)]
            self.assertEqual([text for text in strings if isinstance(text, str) and "%" in text], [], msg=name)


class Names(unittest.TestCase):
    def test_the_interface_is_defined_in_its_files(self):
        for name, names in INTERFACE.items():
            self.assertEqual([word for word in names.split() if word not in defined_in(PARSED[name])], [], msg=name)

    def test_each_name_is_bound_once(self):
        for name, tree in PARSED.items():
            imported = [alias.asname or alias.name for node in imports_in(tree) for alias in node.names]
            names = defined_in(tree) + imported
            self.assertEqual(sorted(names), sorted(set(names)), msg=name)

    def test_imports_name_the_defining_file(self):
        for name, tree in PARSED.items():
            for node in imports_in(tree):
                self.assertIn(node, tree.body, msg=name)
                self.assertIsInstance(node, ast.ImportFrom, msg=name)
                package, file_name = node.module.split(".")
                self.assertEqual([package, node.level], ["cycleready", 0], msg=name)
                for alias in node.names:
                    self.assertIn(alias.name, defined_in(PARSED[f"{file_name}.py"]), msg=name)

    def test_no_barred_and_no_hidden_names(self):
        for name, tree in PARSED.items():
            for word in names_in(tree):
                self.assertNotIn(word, BARRED_NAMES, msg=name)
                if not (word.startswith("__") and word.endswith("__")):
                    self.assertFalse(word.startswith("_"), msg=f"{name}, {word}")

    def test_called_names_are_known(self):
        for name, tree in PARSED.items():
            imported = [alias.name for node in imports_in(tree) for alias in node.names]
            known = BUILTINS + defined_in(tree) + imported + ["cls", "action"]
            called = [node.func for node in ast.walk(tree) if isinstance(node, ast.Call)]
            self.assertEqual([node.id for node in called if isinstance(node, ast.Name) and node.id not in known], [])


class Classes(unittest.TestCase):
    def test_the_methods_of_the_interface_stand_in_their_classes(self):
        found = {node.name: methods_in(node) for tree in PARSED.values() for node in classes_in(tree)}
        for name, methods in METHODS.items():
            self.assertEqual([method for method in methods.split() if method not in found[name]], [], msg=name)
            self.assertEqual(sorted(found[name]), sorted(set(found[name])), msg=name)

    def test_no_name_is_a_method_and_an_attribute(self):
        shared = properties()
        others = {word for word in all_methods() + class_values() if word not in shared}
        for name, tree in PARSED.items():
            self.assertEqual([word for word in attributes_in(tree, ast.Store) if word in others], [], msg=name)

    def test_attributes_that_are_read_are_assigned_or_methods(self):
        assigned = [word for tree in PARSED.values() for word in attributes_in(tree, ast.Store)]
        known = assigned + all_methods() + class_values() + BUILTIN_METHODS + ["setter"]
        for name, tree in PARSED.items():
            self.assertEqual([word for word in attributes_in(tree, ast.Load) if word not in known], [], msg=name)


class Expressions(unittest.TestCase):
    def test_is_stands_beside_none_true_and_false_only(self):
        for name, tree in PARSED.items():
            for node in [node for node in ast.walk(tree) if isinstance(node, ast.Compare)]:
                for sign, side in zip(node.ops, node.comparators):
                    if isinstance(sign, (ast.Is, ast.IsNot)):
                        self.assertIsInstance(side, ast.Constant, msg=name)
                        self.assertIn(side.value, (None, True, False), msg=name)

    def test_any_all_and_sorted_take_no_generator_expression(self):
        for name, tree in PARSED.items():
            self.assertEqual([node for node in ast.walk(tree) if isinstance(node, ast.GeneratorExp)], [], msg=name)

    def test_no_float_and_no_division(self):
        for name, tree in PARSED.items():
            nodes = list(ast.walk(tree))
            constants = [node.value for node in nodes if isinstance(node, ast.Constant)]
            self.assertEqual([value for value in constants if isinstance(value, (float, complex))], [], msg=name)
            self.assertEqual([node for node in nodes if isinstance(node, ast.Div)], [], msg=name)


if __name__ == "__main__":
    unittest.main()
