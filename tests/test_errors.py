"""The error classes: their bases, their attributes and how they are created."""

import inspect
import unittest

from cycleready import errors
from cycleready.errors import (
    CommandFailed,
    Cyclic,
    InvalidLibrary,
    InvalidName,
    LoaderError,
    NoNeed,
    UnknownModule,
    UnknownThread,
)

# Name, base, attributes.
CLASSES = [
    ("LoaderError", ValueError, []),
    ("InvalidName", LoaderError, ["value"]),
    ("InvalidProgram", LoaderError, ["position"]),
    ("InvalidLibrary", LoaderError, ["module", "position"]),
    ("InvalidMains", LoaderError, ["name", "position"]),
    ("InvalidText", LoaderError, ["line"]),
    ("InvalidModules", LoaderError, []),
    ("InvalidNumber", LoaderError, []),
    ("InvalidChoices", LoaderError, []),
    ("InvalidUndo", LoaderError, []),
    ("InvalidCommand", LoaderError, []),
    ("UnknownModule", LookupError, ["value"]),
    ("UnknownThread", LookupError, ["value"]),
    ("NoNeed", LookupError, ["source", "target"]),
    ("NameTaken", KeyError, ["name"]),
    ("WrongStep", RuntimeError, ["position"]),
    ("WrongState", RuntimeError, ["module", "found"]),
    ("MustWait", RuntimeError, ["source", "target"]),
    ("NotWaiting", RuntimeError, ["thread"]),
    ("HasEnded", RuntimeError, ["thread"]),
    ("StillNeeded", RuntimeError, ["module"]),
    ("CommandFailed", RuntimeError, ["position", "answers"]),
    ("TooMany", ArithmeticError, ["limit"]),
    ("Cyclic", ArithmeticError, ["cycle"]),
]
SAMPLES = {
    "value": ["A", "", None, 7, [1, [2]], {"a": [1]}, (1, [2])],
    "position": [-1, 0, 29],
    "module": ["m", None, 7],
    "name": ["t", None, 7],
    "line": [0, 1, 40],
    "source": ["m", None, 7],
    "target": ["n", None, ["n"]],
    "found": ["done"],
    "thread": ["t"],
    "answers": [[], ["ok", "t"]],
    "limit": [0, 8, 5000],
    "cycle": [["m"], ["p", "q"]],
}
WITH_ATTRIBUTES = [row for row in CLASSES if row[2]]
WITH_MESSAGE = [row for row in CLASSES if not row[2]]


def class_of(name):
    return getattr(errors, name)


def sample_of(attribute, at):
    samples = SAMPLES[attribute]
    return samples[at % len(samples)]


class Classes(unittest.TestCase):
    def test_there_are_twenty_four(self):
        found = [name for name, value in vars(errors).items() if inspect.isclass(value)]
        self.assertEqual(sorted(found), sorted(name for name, base, attributes in CLASSES))
        self.assertEqual(len(found), 24)

    def test_each_is_defined_in_its_file(self):
        for name, base, attributes in CLASSES:
            self.assertEqual(class_of(name).__module__, "cycleready.errors")
            self.assertEqual(class_of(name).__name__, name)

    def test_direct_bases(self):
        for name, base, attributes in CLASSES:
            self.assertEqual(class_of(name).__bases__, (base,), msg=name)

    def test_no_other_subclass_relations(self):
        for one, base, attributes in CLASSES:
            for other, other_base, other_attributes in CLASSES:
                expected = one == other or (base is LoaderError and other == "LoaderError")
                self.assertIs(issubclass(class_of(one), class_of(other)), expected, msg=f"{one}, {other}")


class Attributes(unittest.TestCase):
    def check(self, error, values):
        self.assertEqual(vars(error), values)
        for attribute, value in values.items():
            self.assertEqual(getattr(error, attribute), value)

    def test_by_position_and_by_name(self):
        for name, base, attributes in WITH_ATTRIBUTES:
            for at in range(7):
                values = {attribute: sample_of(attribute, at) for attribute in attributes}
                with self.subTest(name=name, values=values):
                    self.check(class_of(name)(*values.values()), values)
                    self.check(class_of(name)(**values), values)

    def test_attributes_after_raise(self):
        for name, base, attributes in WITH_ATTRIBUTES:
            values = {attribute: sample_of(attribute, 0) for attribute in attributes}
            with self.assertRaises(base) as caught:
                raise class_of(name)(**values)
            self.assertIs(type(caught.exception), class_of(name))
            self.check(caught.exception, values)

    def test_wrong_numbers_of_arguments(self):
        for name, base, attributes in WITH_ATTRIBUTES:
            for count in (0, len(attributes) - 1, len(attributes) + 1):
                with self.assertRaises(TypeError, msg=name):
                    class_of(name)(*["m"] * count)

    def test_messages(self):
        for name, base, attributes in WITH_MESSAGE:
            error = class_of(name)("something is wrong")
            self.assertEqual(str(error), "something is wrong")
            self.check(error, {})

    def test_each_error_tells_something(self):
        for name, base, attributes in WITH_ATTRIBUTES:
            values = {attribute: sample_of(attribute, 0) for attribute in attributes}
            self.assertNotEqual(str(class_of(name)(**values)), "")


class Copies(unittest.TestCase):
    def test_lists_are_copied(self):
        answers = ["ok"]
        cycle = ["p", "q"]
        failed = CommandFailed(1, answers)
        cyclic = Cyclic(cycle)
        answers.append("t")
        cycle.clear()
        self.assertEqual(failed.answers, ["ok"])
        self.assertEqual(cyclic.cycle, ["p", "q"])

    def test_wrong_values_are_copied(self):
        for made in (InvalidName, UnknownModule, UnknownThread):
            inner = [1]
            value = {"a": inner, "b": (inner, "c")}
            error = made(value)
            inner.append(2)
            value["d"] = 3
            self.assertEqual(error.value, {"a": [1], "b": ([1], "c")})

    def test_a_wrong_module_of_a_library_is_copied(self):
        module = ["m"]
        error = InvalidLibrary(module, -1)
        module.clear()
        self.assertEqual(error.module, ["m"])

    def test_both_ends_of_a_need_are_copied(self):
        source, target = ["m"], [["n"]]
        error = NoNeed(source, target)
        source.clear()
        target[0].clear()
        self.assertEqual([error.source, error.target], [["m"], [["n"]]])

    def test_other_objects_are_kept(self):
        thing = object()
        self.assertIs(InvalidName(thing).value, thing)
        self.assertIs(UnknownModule(True).value, True)


if __name__ == "__main__":
    unittest.main()
