"""The examples of the interface, as they stand in the document."""

import unittest

ERRORS = """
>>> from cycleready.errors import WrongState
>>> error = WrongState("m", "done")
>>> [error.module, error.found]
['m', 'done']
"""

WORDS = """
>>> from cycleready.words import is_count, is_integer, is_name
>>> [is_name("ab"), is_name("A"), is_integer(True), is_integer(-1), is_count(-1)]
[True, False, False, True, False]
"""

KINDS = """
>>> from cycleready.programs import is_plain, is_step
>>> [is_step(("set", "a", 5)), is_step(("add", "a", "e")), is_plain(("skip", "a", 1)), is_plain(("fail",))]
[True, False, True, False]
"""

SKIP_TOO_FAR = """
>>> from cycleready.programs import check_program
>>> check_program([("set", "a", 1), ("skip", "a", 1)])
raises InvalidProgram(position=1)
"""

VALID_PROGRAMS = """
>>> from cycleready.programs import check_program
>>> [check_program([("export", "x", "a")]), check_program([], is_main=True)]
[None, None]
"""

MODULES_IN = """
>>> from cycleready.programs import modules_in
>>> modules_in([("need", "n"), ("try", "m", "a"), ("read", "b", "n", "x")])
['m', 'n']
"""

TEXTS = """
>>> from cycleready.programs import parse_step, step_text
>>> [step_text(("read", "b", "m", "x")), parse_step("set a -7"), parse_step("fail")]
['read b m x', ('set', 'a', -7), ('fail',)]
"""

SKIP_NOTHING = """
>>> from cycleready.programs import parse_step
>>> parse_step("skip a 0")
raises InvalidText(line=1)
"""

EXAMPLES = [ERRORS, WORDS, KINDS, SKIP_TOO_FAR, VALID_PROGRAMS, MODULES_IN, TEXTS, SKIP_NOTHING]


def error_text(error):
    attributes = ", ".join(f"{name}={value!r}" for name, value in vars(error).items())
    return f"raises {type(error).__name__}({attributes})"


def result_of(example):
    """Run the lines of an example and return what it shows for the last one, and what is expected."""
    lines = example.strip().split("\n")
    sources = [line.removeprefix(">>> ") for line in lines[:-1]]
    names = {}
    for source in sources[:-1]:
        exec(source, names)
    try:
        shown = repr(eval(sources[-1], names))
    except (ValueError, LookupError, RuntimeError, ArithmeticError) as error:
        shown = error_text(error)
    return shown, lines[-1]


class Examples(unittest.TestCase):
    def test_each_example(self):
        for example in EXAMPLES:
            with self.subTest(example=example):
                shown, expected = result_of(example)
                self.assertEqual(shown, expected)


if __name__ == "__main__":
    unittest.main()
