"""The text of a library, there and back, and the first wrong line of other texts [8]."""

import inspect
import random
import re
import unittest

from cycleready.errors import InvalidText
from cycleready.library import Library
from cycleready.library_text import library_text, load_library
from values import NO_NUMBERS_NO_STRINGS, Number, Word, is_same

BIG = 123456789012345678901234567890
FORTY = [first + second for first in "abcd" for second in "abcdefghij"]
NAME = "[a-z]{1,8}"
VARIABLE = "[abcd]"
STEP = "|".join([
    f"set {VARIABLE} (0|-?[1-9][0-9]*)",
    f"add {VARIABLE} {VARIABLE}",
    f"skip {VARIABLE} [1-9][0-9]*",
    f"export {NAME} {VARIABLE}",
    f"read {VARIABLE} {NAME} {NAME}",
    f"need {NAME}",
    f"try {NAME} {VARIABLE}",
    "fail",
])

SMALL = "module ab\n  skip a 2\n  need m\n  fail\nmodule m\nmodule n\n  set b -10\n  try ab d\n  read c n x\n  export x c\n"


def is_heading(line):
    return re.fullmatch(f"module {NAME}", line) is not None


def heading_above(lines, at):
    """The index of the line `module NAME` whose step line this is, or None."""
    while at >= 0 and lines[at].startswith("  "):
        at -= 1
    return at if at >= 0 and is_heading(lines[at]) else None


def is_wrong_heading(lines, at):
    above = [line for line in lines[:at] if is_heading(line)]
    return len(above) >= 40 or (above != [] and lines[at][7:] <= above[-1][7:])


def is_wrong_step_line(lines, at):
    heading = heading_above(lines, at)
    if heading is None or at - heading > 30 or re.fullmatch(STEP, lines[at][2:]) is None:
        return True
    words = lines[at].split()
    end = at + 1
    while end < len(lines) and lines[end].startswith("  "):
        end += 1
    if words[0] == "skip" and int(words[2]) > end - at - 1:
        return True
    place = {"need": 1, "try": 1, "read": 2}.get(words[0])
    return place is not None and f"module {words[place]}" not in lines


def first_wrong_line(text):
    """The first wrong line, judged line by line as the document says it, or None."""
    lines = text.split("\n")
    last_is_unended = lines[-1] != ""
    if not last_is_unended:
        lines.pop()
    for at, line in enumerate(lines):
        if is_heading(line):
            wrong = is_wrong_heading(lines, at)
        else:
            wrong = not line.startswith("  ") or is_wrong_step_line(lines, at)
        if wrong or (last_is_unended and at == len(lines) - 1):
            return at + 1
    return None if lines else 1


def heading_lines(names):
    return "".join(f"module {name}\n" for name in names)


class TextCase(unittest.TestCase):
    def check_wrong(self, text, line):
        shown = repr(text) if isinstance(text, str) else "no string"
        with self.assertRaises(InvalidText, msg=shown) as caught:
            load_library(text)
        self.assertTrue(is_same(caught.exception.line, line), msg=f"{caught.exception.line}, {shown}")

    def check_as_judged(self, text):
        line = first_wrong_line(text)
        if line is None:
            self.assertEqual(library_text(load_library(text)), text)
        else:
            self.check_wrong(text, line)


class ThereAndBack(TextCase):
    def check(self, modules, text):
        library = Library(modules)
        self.assertEqual(library_text(library), text)
        self.assertIs(type(library_text(library)), str)
        loaded = load_library(text)
        self.assertIs(type(loaded), Library)
        self.assertEqual(loaded, library)
        self.assertEqual(repr(loaded), repr(library))
        self.assertIsNone(first_wrong_line(text))

    def test_one_module(self):
        self.check({"m": []}, "module m\n")
        self.check({"abcdefgh": [("fail",)]}, "module abcdefgh\n  fail\n")
        self.check({"m": [("need", "m"), ("fail",)]}, "module m\n  need m\n  fail\n")
        self.check({"module": [("need", "module")]}, "module module\n  need module\n")

    def test_each_kind_of_step(self):
        steps = [("set", "a", 0), ("set", "b", -7), ("add", "c", "d"), ("skip", "a", 5), ("export", "x", "a")]
        steps += [("read", "b", "m", "y"), ("need", "n"), ("try", "m", "d"), ("fail",)]
        text = "module m\n  set a 0\n  set b -7\n  add c d\n  skip a 5\n  export x a\n"
        text += "  read b m y\n  need n\n  try m d\n  fail\nmodule n\n"
        self.check({"n": [], "m": steps}, text)

    def test_integers_of_thirty_digits(self):
        text = f"module m\n  set a {BIG}\n  set b -{BIG}\n  set c {'9' * 30}\n"
        self.check({"m": [("set", "a", BIG), ("set", "b", -BIG), ("set", "c", 10 ** 30 - 1)]}, text)

    def test_modules_are_sorted(self):
        self.check({"n": [], "m": [("need", "n")], "ab": [], "a": []}, "module a\nmodule ab\nmodule m\n  need n\nmodule n\n")

    def test_forty_modules(self):
        self.check({name: [] for name in reversed(FORTY)}, heading_lines(FORTY))
        modules = {name: [("need", other), ("fail",)] for name, other in zip(FORTY, reversed(FORTY))}
        text = "".join(f"module {name}\n  need {other}\n  fail\n" for name, other in zip(FORTY, reversed(FORTY)))
        self.check(modules, text)

    def test_thirty_steps_in_each_of_forty_modules(self):
        steps = [("skip", "a", 29)] + [("set", "a", -BIG)] * 29
        lines = "  skip a 29\n" + f"  set a -{BIG}\n" * 29
        text = "".join(f"module {name}\n{lines}" for name in FORTY)
        self.check({name: steps for name in FORTY}, text)

    def test_by_name(self):
        self.assertEqual(library_text(library=Library({"m": []})), "module m\n")
        self.assertEqual(load_library(text="module m\n"), Library({"m": []}))
        self.assertEqual(list(inspect.signature(library_text).parameters), ["library"])
        self.assertEqual(list(inspect.signature(load_library).parameters), ["text"])

    def test_items_that_show_themselves_in_another_way(self):
        library = Library({Word.MODULE: [(Word.NEED, Word.MODULE), ("set", "a", Number.FEW)]})
        self.assertEqual(library_text(library), "module m\n  need m\n  set a -3\n")

    def test_the_library_is_unchanged(self):
        library = Library({"n": [("need", "m")], "m": []})
        before = repr(library)
        self.assertEqual(library_text(library), library_text(library))
        self.assertEqual(repr(library), before)

    def test_loaded_libraries_are_independent(self):
        one, other = load_library("module m\n  fail\n"), load_library("module m\n  fail\n")
        one.initializer("m").clear()
        self.assertEqual(other.initializer("m"), [("fail",)])
        self.assertEqual(one, other)


class WrongLines(TextCase):
    def test_values_that_are_not_strings(self):
        for value in NO_NUMBERS_NO_STRINGS + [0, 1, (), b"module m\n", ["module m\n"], Library({"m": []})]:
            self.check_wrong(value, 0)

    def test_no_line_at_all(self):
        self.check_wrong("", 1)

    def test_empty_lines(self):
        self.check_wrong("\n", 1)
        self.check_wrong("\n\n", 1)
        self.check_wrong("\nmodule m\n", 1)
        self.check_wrong("module m\n\n", 2)
        self.check_wrong("module m\n\n  fail\n", 2)
        self.check_wrong("module m\n  fail\n\nmodule n\n", 3)

    def test_lines_that_are_neither(self):
        wrong = ["module", "module ", "module M", "module m1", "module abcdefghi", "module  m", "module m ", " module m"]
        wrong += ["Module m", "modulem", "module m n", "modules m", "m", "fail", " fail", " ", "thread t", "module -", "\tfail"]
        for line in wrong:
            self.check_wrong(f"{line}\n", 1)
            self.check_wrong(f"{line}\nmodule m\n", 1)
            self.check_wrong(f"module a\n{line}\n", 2)
            self.check_wrong(f"module a\n  fail\n{line}\n  fail\n", 3)
            self.check_wrong(f"module a\n{line}", 2)

    def test_a_step_line_before_the_first_module(self):
        self.check_wrong("  fail\n", 1)
        self.check_wrong("  fail\nmodule m\n", 1)
        self.check_wrong("  \n", 1)

    def test_names_that_are_not_greater(self):
        self.check_wrong("module m\nmodule m\n", 2)
        self.check_wrong("module n\nmodule m\n", 2)
        self.check_wrong("module ab\nmodule a\n", 2)
        self.check_wrong("module a\n  fail\nmodule c\n  fail\nmodule b\n", 5)
        self.check_wrong("module a\nmodule b\nmodule a\nmodule b\n", 3)
        self.assertEqual(load_library("module a\nmodule aa\nmodule b\n").modules(), ["a", "aa", "b"])

    def test_the_forty_first_module(self):
        self.check_wrong(heading_lines(FORTY + ["e"]), 41)
        self.check_wrong(heading_lines(FORTY + ["e", "f"]), 41)
        self.check_wrong("".join(f"module {name}\n  fail\n" for name in FORTY + ["e"]), 81)
        self.check_wrong(heading_lines(FORTY + ["aa"]), 41)

    def test_the_thirty_first_step_line(self):
        self.assertEqual(len(load_library("module m\n" + "  fail\n" * 30).initializer("m")), 30)
        self.check_wrong("module m\n" + "  fail\n" * 31, 32)
        self.check_wrong("module m\n" + "  fail\n" * 40 + "module a\n", 32)
        self.check_wrong("module a\n" + "  fail\n" * 30 + "module b\n" + "  fail\n" * 31, 63)
        self.check_wrong("module m\n" + "  fail\n" * 29 + "  need k\n" + "  fail\n", 31)
        self.check_wrong("module m\n" + "  fail\n" * 30 + "  fails\n", 32)

    def test_step_lines_without_the_text_of_a_step(self):
        wrong = ["", " ", "fails", "fail ", " fail", "set a", "set a 01", "set a -0", "set a +1", "set e 1", "set a 1 "]
        wrong += ["add a e", "skip a 0", "skip a -1", "export X a", "read a m", "need", "need M", "try m", "need m m"]
        wrong += ["module m", "set  a 1", "('fail',)", ";"]
        for step in wrong:
            self.check_wrong(f"module m\n  {step}\n", 2)
            self.check_wrong(f"module m\n  fail\n  {step}\n  {step}\nmodule a\n", 3)
            self.check_wrong(f"module m\n  {step}", 2)

    def test_skips(self):
        self.check_wrong("module m\n  skip a 1\n", 2)
        self.check_wrong("module m\n  skip a 1\nmodule n\n  fail\n", 2)
        self.check_wrong("module m\n  fail\n  skip a 3\n  fail\n  fail\n", 3)
        self.check_wrong(f"module m\n  skip a {BIG}\n  fail\n", 2)
        self.assertEqual(len(load_library("module m\n  fail\n  skip a 2\n  fail\n  fail\n")), 1)

    def test_a_skip_counts_wrong_step_lines(self):
        self.check_wrong("module m\n  skip a 2\n  fails\n  fail\n", 3)
        self.check_wrong("module m\n  skip a 2\n  fail\n  fails\n", 4)
        self.check_wrong("module m\n  skip a 3\n  fails\n  fail\n", 2)
        self.check_wrong("module m\n  skip a 2\n  fail\n  ", 4)
        self.check_wrong("module m\n  skip a 2\n  fail\n fail\n", 2)

    def test_a_skip_counts_step_lines_that_are_too_many(self):
        self.check_wrong("module m\n  skip a 30\n" + "  fail\n" * 30, 32)
        self.check_wrong("module m\n  skip a 31\n" + "  fail\n" * 30, 2)
        self.check_wrong("module m\n  skip a 39\n" + "  fail\n" * 39, 32)

    def test_a_skip_counts_a_last_line_without_line_feed(self):
        self.check_wrong("module m\n  skip a 1\n  fail", 3)
        self.check_wrong("module m\n  skip a 2\n  fail", 2)

    def test_modules_without_a_line(self):
        for step in ("need k", "try k a", "read a k m"):
            self.check_wrong(f"module m\n  fail\n  {step}\n", 3)
            self.check_wrong(f"module m\n  {step}\n  {step}\nmodule n\n", 2)
            self.assertEqual(len(load_library(f"module k\nmodule m\n  {step}\n")), 2)
            self.assertEqual(len(load_library(f"module a\n  {step}\nmodule k\n")), 2)

    def test_other_words_need_no_line(self):
        self.assertEqual(len(load_library("module m\n  export x a\n  read a m y\n")), 1)

    def test_lines_that_name_no_module(self):
        self.check_wrong("module a\n  need m\nmodule m \n", 2)
        self.check_wrong("module a\n  need m\n  module m\n", 2)
        self.check_wrong("module a\n  need m\n module m\n", 2)
        self.check_wrong("module a\n  need mm\nmodule m\n", 2)

    def test_a_wrong_line_that_names_a_module(self):
        self.check_wrong("module m\n  need a\nmodule a\n", 3)
        self.check_wrong("module m\n  need n\nwrong\nmodule n\n", 3)
        self.check_wrong("module m\n  need n\nmodule n", 3)
        self.check_wrong(heading_lines(FORTY[:-1]) + "module dj\n  need e\nmodule e\n", 42)

    def test_no_line_feed_at_the_end(self):
        self.check_wrong("module m", 1)
        self.check_wrong("module m\n  fail", 2)
        self.check_wrong("module m\nmodule n", 2)
        self.check_wrong("module m\n  need k\n  fail", 2)
        self.check_wrong("module m\n ", 2)

    def test_the_first_of_several_wrong_lines(self):
        self.check_wrong("module m\n  skip a 9\n  need k\n  fails\nmodule a\n\nmodule z", 2)
        self.check_wrong("module m\n  fail\n  need k\n  fails\n  skip a 9\nmodule a\n\n", 3)
        self.check_wrong("module m\n  fail\nmodule a\n  need k\n\nmodule z", 3)
        self.check_wrong("module m\n\nmodule a\n  need k\nmodule z", 2)
        self.check_wrong("module m\n  skip a 1\n  fails\n  need k", 3)


class AsJudgedLineByLine(TextCase):
    def test_the_judge(self):
        self.assertIsNone(first_wrong_line(SMALL))
        self.assertEqual(first_wrong_line(SMALL[:-1]), 10)

    def test_each_beginning_and_each_end(self):
        for at in range(len(SMALL) + 1):
            self.check_as_judged(SMALL[:at])
            self.check_as_judged(SMALL[at:])

    def test_each_character_left_out_or_replaced(self):
        for at in range(len(SMALL)):
            for word in ("", " ", "\n", "a", "m", "0", "  ", "\n  ", "M"):
                self.check_as_judged(SMALL[:at] + word + SMALL[at + 1:])
                self.check_as_judged(SMALL[:at] + word + SMALL[at:])

    def test_each_line_left_out_moved_or_repeated(self):
        lines = SMALL.splitlines(keepends=True)
        for at, line in enumerate(lines):
            others = lines[:at] + lines[at + 1:]
            self.check_as_judged("".join(others))
            for to in range(len(lines) + 1):
                self.check_as_judged("".join(others[:to] + [line] + others[to:]))
                self.check_as_judged("".join(lines[:to] + [line] + lines[to:]))

    def test_lines_in_a_mixed_order(self):
        source = random.Random(8)
        lines = ["module a", "module b", "module c", "  fail", "  skip a 1", "  skip b 2", "  need a", "  need b"]
        lines += ["  try c a", "  read a b x", "  need d"]
        for turn in range(3000):
            text = "\n".join(source.choices(lines, k=source.randrange(1, 7)))
            self.check_as_judged("module a\n" + text + source.choice(["", "\n", "\n", "\n"]))


if __name__ == "__main__":
    unittest.main()
