"""The examples of the interface, as they stand in the document."""

import unittest

import examples_console
import examples_world

ERRORS = """
>>> from cycleready.errors import WrongState
>>> error = WrongState("m", "done")
>>> [error.module, error.found]
['m', 'done']
"""

WORDS = """
>>> from cycleready.words import is_count, is_integer, is_name
>>> [is_name("ab"), is_name("A"), is_integer(True), is_integer(-1), is_count(-1)]
[True, False, False, True, False]
"""

KINDS = """
>>> from cycleready.programs import is_plain, is_step
>>> [is_step(("set", "a", 5)), is_step(("add", "a", "e")), is_plain(("skip", "a", 1)), is_plain(("fail",))]
[True, False, True, False]
"""

SKIP_TOO_FAR = """
>>> from cycleready.programs import check_program
>>> check_program([("set", "a", 1), ("skip", "a", 1)])
raises InvalidProgram(position=1)
"""

VALID_PROGRAMS = """
>>> from cycleready.programs import check_program
>>> [check_program([("export", "x", "a")]), check_program([], is_main=True)]
[None, None]
"""

MODULES_IN = """
>>> from cycleready.programs import modules_in
>>> modules_in([("need", "n"), ("try", "m", "a"), ("read", "b", "n", "x")])
['m', 'n']
"""

TEXTS = """
>>> from cycleready.programs import parse_step, step_text
>>> [step_text(("read", "b", "m", "x")), parse_step("set a -7"), parse_step("fail")]
['read b m x', ('set', 'a', -7), ('fail',)]
"""

SKIP_NOTHING = """
>>> from cycleready.programs import parse_step
>>> parse_step("skip a 0")
raises InvalidText(line=1)
"""

WITH_LIBRARY = """
>>> from cycleready.library import Library
>>> library = Library({"n": [("need", "m"), ("read", "b", "m", "x"), ("export", "y", "b")], "m": [("set", "a", 5), ("export", "x", "a")]})
"""

LIBRARY_EXAMPLES = [
    """
>>> [len(library), library == Library({"m": []}), repr(Library({"m": [("fail",)]}))]
[2, False, "Library({'m': [('fail',)]})"]
""",
    """
>>> from cycleready.library import Library
>>> Library({"m": [("fail",), ("need", "k")]})
raises InvalidLibrary(module='m', position=1)
""",
    """
>>> other = Library.of(("m", [("fail",)]), ("k", []))
>>> [other, other == Library({"k": [], "m": [("fail",)]})]
[Library({'k': [], 'm': [('fail',)]}), True]
""",
    """
>>> Library.of(("m", []), ("m", []))
raises InvalidLibrary(module='m', position=-1)
""",
    """
>>> [library.modules(), library.has_module("m"), library.has_module(None), library.initializer("m")]
[['m', 'n'], True, False, [('set', 'a', 5), ('export', 'x', 'a')]]
""",
    r"""
>>> from cycleready.library_text import library_text
>>> library_text(library)
'module m\n  set a 5\n  export x a\nmodule n\n  need m\n  read b m x\n  export y b\n'
""",
    r"""
>>> from cycleready.library_text import load_library
>>> load_library("module m\n  need m\n").initializer("m")
[('need', 'm')]
""",
    r"""
>>> from cycleready.library_text import load_library
>>> load_library("module m\n  fail\n  need k\n")
raises InvalidText(line=3)
""",
]

WITH_NEEDS = """
>>> from cycleready.needs import Needs
>>> needs = Needs()
>>> added = [needs.record("a", "b"), needs.record("b", "a"), needs.record("b", "c")]
"""

NEEDS_EXAMPLES = [
    """
>>> [added, len(needs), repr(needs), str(needs), needs == Needs()]
[[True, True, True], 3, "Needs([('a', 'b'), ('b', 'a'), ('b', 'c')])", 'a:b b:a b:c', False]
""",
    """
>>> [Needs.of(), Needs.of(("b", "c"), ("a", "b"), ("b", "c")), Needs.of(("a", "b"), ("b", "a"), ("b", "c")) == needs]
[Needs([]), Needs([('a', 'b'), ('b', 'c')]), True]
""",
    """
>>> [needs.record("a", "b"), needs.delete_all("b"), needs.delete_all(None), needs.pairs()]
[False, 2, 0, [('a', 'b')]]
""",
    """
>>> needs.delete("c", "a")
raises NoNeed(source='c', target='a')
""",
    """
>>> [needs.targets("b"), needs.sources("b"), needs.targets(7)]
[['a', 'c'], ['a'], []]
""",
    """
>>> [needs.depends("a", "c"), needs.depends("c", "a"), needs.depends("x", "x"), needs.closure("a"), needs.group("a")]
[True, False, True, ['a', 'b', 'c'], ['a', 'b']]
""",
    """
>>> [needs.path("a", "c"), needs.path("c", "a"), needs.path("c", "c"), needs.cycle_through("b"), needs.cycle_through("c")]
[['a', 'b', 'c'], None, ['c'], ['b', 'a'], None]
""",
    """
>>> other = needs.clone()
>>> other.delete("b", "a")
>>> [needs.is_acyclic(), other.is_acyclic(), other == needs]
[False, True, False]
""",
]

WITH_FRAME = """
>>> from cycleready.frames import Frame
>>> frame = Frame([("set", "a", 2), ("skip", "a", 1), ("fail",), ("read", "b", "m", "x")])
"""

FRAME_EXAMPLES = [
    """
>>> [len(frame), frame == frame.clone(), frame == Frame([])]
[0, True, False]
""",
    """
>>> [frame.next_step(), frame.next_index(), frame.variables(), frame.is_over()]
[('set', 'a', 2), 0, {'a': 0, 'b': 0, 'c': 0, 'd': 0}, False]
""",
    """
>>> frame.run_plain()
>>> frame.run_plain()
>>> [frame.next_index(), frame.next_step(), frame.variables(), len(frame)]
[3, ('read', 'b', 'm', 'x'), {'a': 2, 'b': 0, 'c': 0, 'd': 0}, 2]
""",
    """
>>> frame.run_plain()
>>> frame.run_plain()
>>> frame.pass_step(value=7)
>>> [frame.is_over(), frame.variables(), len(frame)]
[True, {'a': 2, 'b': 7, 'c': 0, 'd': 0}, 3]
""",
    """
>>> frame.pass_step()
raises WrongStep(position=0)
""",
]

SECTIONS = [(WITH_LIBRARY, LIBRARY_EXAMPLES), (WITH_NEEDS, NEEDS_EXAMPLES), (WITH_FRAME, FRAME_EXAMPLES)]
SECTIONS += examples_world.SECTIONS + examples_console.SECTIONS
EXAMPLES = [ERRORS, WORDS, KINDS, SKIP_TOO_FAR, VALID_PROGRAMS, MODULES_IN, TEXTS, SKIP_NOTHING]
EXAMPLES += [beginning + example.removeprefix("\n") for beginning, examples in SECTIONS for example in examples]


def error_text(error):
    attributes = ", ".join(f"{name}={value!r}" for name, value in vars(error).items())
    return f"raises {type(error).__name__}({attributes})".removesuffix("()")


def result_of(example):
    """Run the lines of an example and return what it shows for the last one, and what is expected."""
    lines = example.strip().split("\n")
    sources = [line.removeprefix(">>> ") for line in lines[:-1]]
    names = {}
    for source in sources[:-1]:
        exec(source, names)
    try:
        shown = repr(eval(sources[-1], names))
    except (ValueError, LookupError, RuntimeError, ArithmeticError) as error:
        shown = error_text(error)
    return shown, lines[-1]


class Examples(unittest.TestCase):
    def test_each_example(self):
        for example in EXAMPLES:
            with self.subTest(example=example):
                shown, expected = result_of(example)
                self.assertEqual(shown, expected)


if __name__ == "__main__":
    unittest.main()
