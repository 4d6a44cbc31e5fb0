"""Steps, programs and the text of a step [2, 5, 6, 8]."""

import copy
import inspect
import unittest

from cycleready.errors import InvalidProgram, InvalidText
from cycleready.programs import MOST_STEPS, check_program, is_plain, is_step, modules_in, parse_step, step_text
from values import NO_NUMBERS_NO_STRINGS, NO_STEPS, Agrees, Number, Refuses, Word

BIG = 123456789012345678901234567890

PLAIN_TEXTS = [
    (("set", "a", 0), "set a 0"),
    (("set", "a", 5), "set a 5"),
    (("set", "b", -1), "set b -1"),
    (("set", "c", 10), "set c 10"),
    (("set", "d", BIG), "set d 123456789012345678901234567890"),
    (("set", "d", -BIG), "set d -123456789012345678901234567890"),
    (("add", "a", "b"), "add a b"),
    (("add", "d", "d"), "add d d"),
    (("skip", "a", 1), "skip a 1"),
    (("skip", "d", 29), "skip d 29"),
    (("skip", "c", BIG), "skip c 123456789012345678901234567890"),
]
OTHER_TEXTS = [
    (("export", "x", "a"), "export x a"),
    (("export", "abcdefgh", "d"), "export abcdefgh d"),
    (("read", "b", "m", "x"), "read b m x"),
    (("read", "a", "a", "a"), "read a a a"),
    (("read", "a", "abcdefgh", "hgfedcba"), "read a abcdefgh hgfedcba"),
    (("need", "m"), "need m"),
    (("need", "abcdefgh"), "need abcdefgh"),
    (("need", "need"), "need need"),
    (("try", "m", "a"), "try m a"),
    (("try", "fail", "d"), "try fail d"),
    (("fail",), "fail"),
]
TEXTS = PLAIN_TEXTS + OTHER_TEXTS

EACH_KIND = [
    ("set", "a", 1),
    ("add", "a", "b"),
    ("skip", "a", 1),
    ("export", "x", "a"),
    ("read", "a", "m", "x"),
    ("need", "m"),
    ("try", "m", "a"),
    ("fail",),
]

# For each place in each kind of step, whether a variable, a name or a number stands there.
PLACES = [
    (("set", "a", 1), "vi"),
    (("add", "a", "b"), "vv"),
    (("skip", "a", 1), "vk"),
    (("export", "x", "a"), "nv"),
    (("read", "a", "m", "x"), "vnn"),
    (("need", "m"), "n"),
    (("try", "m", "a"), "nv"),
]
NEVER = [None, True, False, b"a", [], ["a"], [1], {}, {"a": 1}, (), ("a",), (1,), ((1,),), object(), Agrees(), Refuses()]
WRONG = {
    "v": NEVER + [0, 1, "", "e", "z", "A", "ab", "a ", "m"],
    "n": NEVER + [0, 1, "", "A", "M", "mM", "m1", "m ", "abcdefghi", "m\n", "m_", "-"],
    "i": NEVER + ["", "a", "1", "-1"],
    "k": NEVER + ["", "a", "1", 0, -1, -BIG],
}


def with_item(step, at, item):
    return step[:at] + (item,) + step[at + 1:]


def steps_with_a_wrong_item():
    return [
        with_item(step, at + 1, item)
        for step, places in PLACES
        for at, place in enumerate(places)
        for item in WRONG[place]
    ]


def steps_of_a_wrong_length():
    shorter = [step[:-1] for step in EACH_KIND]
    longer = [step + (item,) for step in EACH_KIND for item in ("a", "m", 1, None, True, ())]
    return shorter + longer


class Kinds(unittest.TestCase):
    def test_each_kind_of_step(self):
        for step in EACH_KIND + [step for step, text in TEXTS]:
            self.assertIs(is_step(step), True, msg=repr(step))
            self.assertIs(is_step(value=step), True)

    def test_each_variable_in_each_place(self):
        for variable in ("a", "b", "c", "d"):
            for step, places in PLACES:
                for at, place in enumerate(places):
                    if place == "v":
                        self.assertIs(is_step(with_item(step, at + 1, variable)), True)

    def test_bounds_of_integers(self):
        self.assertIs(is_step(("set", "a", -BIG)), True)
        self.assertIs(is_step(("skip", "a", 31)), True)
        self.assertIs(is_step(("skip", "a", 0)), False)

    def test_bools_are_not_integers(self):
        for kind in ("set", "skip"):
            for value in (True, False):
                self.assertIs(is_step((kind, "a", value)), False)
                self.assertIs(is_plain((kind, "a", value)), False)

    def test_a_wrong_item(self):
        for at, value in enumerate(steps_with_a_wrong_item()):
            self.assertIs(is_step(value), False, msg=f"{at}, kind {value[0]}")
            self.assertIs(is_plain(value), False)

    def test_an_item_too_many_or_too_few(self):
        for value in steps_of_a_wrong_length():
            self.assertIs(is_step(value), False, msg=repr(value))
            self.assertIs(is_plain(value), False, msg=repr(value))

    def test_a_list_in_place_of_the_tuple(self):
        for step in EACH_KIND:
            self.assertIs(is_step(list(step)), False)
            self.assertIs(is_plain(list(step)), False)

    def test_other_values(self):
        for at, value in enumerate(NO_STEPS):
            self.assertIs(is_step(value), False, msg=f"value {at}")
            self.assertIs(is_plain(value), False, msg=f"value {at}")

    def test_plain_steps(self):
        for step, text in PLAIN_TEXTS:
            self.assertIs(is_plain(step), True, msg=text)
            self.assertIs(is_plain(step=step), True)
        for step, text in OTHER_TEXTS:
            self.assertIs(is_plain(step), False, msg=text)


class Programs(unittest.TestCase):
    def position(self, value, function=check_program, **named):
        with self.assertRaises(InvalidProgram) as caught:
            function(value, **named)
        return caught.exception.position

    def check_both(self, value, position):
        """Both check_program and modules_in refuse the value at this position."""
        self.assertEqual(self.position(value), position)
        self.assertEqual(self.position(value, is_main=False), position)
        self.assertEqual(self.position(value, is_main=True), position)
        self.assertEqual(self.position(value, modules_in), position)

    def test_most_steps(self):
        self.assertEqual(MOST_STEPS, 30)
        self.assertIs(type(MOST_STEPS), int)

    def test_lengths(self):
        for length in (0, 1, 29, 30):
            self.assertIsNone(check_program([("fail",)] * length))
            self.assertIsNone(check_program([("fail",)] * length, is_main=True))
        self.check_both([("fail",)] * 31, -1)
        self.check_both([("fail",)] * 32, -1)
        self.check_both([None] * 31, -1)

    def test_each_kind_of_step(self):
        self.assertIsNone(check_program(EACH_KIND))
        self.assertIsNone(check_program([step for step in EACH_KIND if step[0] != "export"], is_main=True))

    def test_values_that_are_not_lists(self):
        values = [value for value in NO_NUMBERS_NO_STRINGS if not isinstance(value, list)]
        values += [0, -1, 31, "", "fail", (), (("fail",),), ("fail",), {0: ("fail",)}]
        for value in values:
            self.check_both(value, -1)

    def test_skip_to_the_end(self):
        for length in (2, 5, 30):
            for at in range(length - 1):
                rest = length - at - 1
                before = [("fail",)] * at
                after = [("fail",)] * rest
                self.assertIsNone(check_program(before + [("skip", "a", rest)] + after))
                self.assertIsNone(check_program(before + [("skip", "a", 1)] + after, is_main=True))
                self.check_both(before + [("skip", "a", rest + 1)] + after, at)
                self.check_both(before + [("skip", "a", BIG)] + after, at)

    def test_skip_as_the_last_step(self):
        self.check_both([("skip", "a", 1)], 0)
        self.check_both([("fail",)] * 29 + [("skip", "a", 1)], 29)

    def test_each_wrong_element_at_each_place(self):
        wrong = NO_STEPS + steps_with_a_wrong_item() + steps_of_a_wrong_length()
        for value in wrong:
            self.check_both([value], 0)
            self.check_both([("fail",), value, ("fail",)], 1)

    def test_the_first_wrong_element_decides(self):
        self.check_both([("fail",), None, ("skip", "a", 9), ["fail"]], 1)
        self.check_both([("fail",), ("skip", "a", 3), None, ()], 1)
        self.check_both([("skip", "a", 3), ("fail",), None, ()], 2)
        self.check_both([("fail",)] * 28 + [("skip", "a", True), ("fail", "a")], 28)
        self.check_both([("fail",)] * 29 + [0], 29)

    def test_exports(self):
        program = [("fail",), ("export", "x", "a"), ("export", "y", "b")]
        self.assertIsNone(check_program(program))
        self.assertIsNone(check_program(program, is_main=False))
        self.assertEqual(self.position(program, is_main=True), 1)
        self.assertEqual(modules_in(program), [])

    def test_exports_among_wrong_elements(self):
        self.assertEqual(self.position([("export", "x", "a"), None], is_main=True), 0)
        self.assertEqual(self.position([("export", "x", "a"), None]), 1)
        self.assertEqual(self.position([None, ("export", "x", "a")], is_main=True), 0)
        self.assertEqual(self.position([("skip", "a", 2), ("export", "x", "a")], is_main=True), 0)
        self.assertEqual(self.position([("skip", "a", 1), ("export", "x", "a")], is_main=True), 1)
        self.assertEqual(self.position([("export", "x", "a")] * 31, is_main=True), -1)

    def test_arguments_by_name(self):
        self.assertIsNone(check_program(value=[], is_main=True))
        self.assertIsNone(check_program(is_main=False, value=[]))
        self.assertEqual(modules_in(program=[]), [])
        with self.assertRaises(TypeError):
            check_program([], True)

    def test_parameters(self):
        parameters = inspect.signature(check_program).parameters
        self.assertEqual(list(parameters), ["value", "is_main"])
        self.assertIs(parameters["is_main"].kind, inspect.Parameter.KEYWORD_ONLY)
        self.assertIs(parameters["is_main"].default, False)


class ModulesIn(unittest.TestCase):
    def test_no_modules(self):
        self.assertEqual(modules_in([]), [])
        self.assertEqual(modules_in([("set", "a", 1), ("add", "b", "c"), ("export", "x", "d"), ("fail",)]), [])

    def test_each_kind_with_a_module(self):
        self.assertEqual(modules_in([("need", "m")]), ["m"])
        self.assertEqual(modules_in([("try", "m", "a")]), ["m"])
        self.assertEqual(modules_in([("read", "a", "m", "x")]), ["m"])

    def test_sorted_and_each_once(self):
        program = [("need", "z"), ("try", "b", "a"), ("read", "c", "ab", "y"), ("need", "b"), ("need", "abc")]
        self.assertEqual(modules_in(program), ["ab", "abc", "b", "z"])
        self.assertEqual(modules_in([("need", "m")] * 30), ["m"])

    def test_thirty_modules(self):
        names = [first + second for first in "cba" for second in "jihgfedcba"]
        self.assertEqual(modules_in([("need", name) for name in names]), sorted(names))

    def test_modules_behind_a_skip_occur_too(self):
        self.assertEqual(modules_in([("set", "a", 1), ("skip", "a", 1), ("need", "m")]), ["m"])

    def test_the_argument_is_unchanged(self):
        program = [("need", "n"), ("try", "m", "a"), ("read", "b", "n", "x")]
        before = copy.deepcopy(program)
        check_program(program)
        check_program(program, is_main=True)
        modules_in(program)
        self.assertEqual(program, before)

    def test_a_wrong_argument_is_unchanged(self):
        program = [("need", "n"), ["need", "m"], ("skip", "a", 7)]
        before = copy.deepcopy(program)
        for function in (check_program, modules_in):
            with self.assertRaises(InvalidProgram):
                function(program)
        self.assertEqual(program, before)

    def test_a_changed_result_has_no_effect(self):
        program = [("need", "n"), ("need", "m")]
        first = modules_in(program)
        first.append("k")
        first[0] = "z"
        second = modules_in(program)
        self.assertEqual(second, ["m", "n"])
        self.assertIsNot(first, second)
        empty = modules_in([])
        empty.append("m")
        self.assertEqual(modules_in([]), [])


class Texts(unittest.TestCase):
    def check_no_text(self, value):
        with self.assertRaises(InvalidText) as caught:
            parse_step(value)
        self.assertEqual(caught.exception.line, 1)

    def test_there_and_back(self):
        for step, text in TEXTS:
            self.assertEqual(step_text(step), text)
            self.assertIs(type(step_text(step)), str)
            parsed = parse_step(text)
            self.assertEqual(parsed, step)
            self.assertEqual([type(item) for item in parsed], [type(item) for item in step])
            self.assertIs(type(parsed), tuple)

    def test_arguments_by_name(self):
        self.assertEqual(step_text(step=("fail",)), "fail")
        self.assertEqual(parse_step(text="fail"), ("fail",))

    def test_items_that_show_themselves_in_another_way(self):
        self.assertEqual(step_text((Word.NEED, Word.MODULE)), "need m")
        self.assertEqual(step_text(("set", "a", Number.FEW)), "set a -3")

    def test_no_steps(self):
        for value in NO_STEPS + steps_with_a_wrong_item() + steps_of_a_wrong_length():
            with self.assertRaises(InvalidProgram) as caught:
                step_text(value)
            self.assertEqual(caught.exception.position, 0)

    def test_a_list_in_place_of_the_tuple(self):
        for step in EACH_KIND:
            with self.assertRaises(InvalidProgram) as caught:
                step_text(list(step))
            self.assertEqual(caught.exception.position, 0)

    def test_spaces(self):
        for step, text in TEXTS:
            self.check_no_text(" " + text)
            self.check_no_text("  " + text)
            self.check_no_text(text + " ")
            self.check_no_text(text.upper())
            if " " in text:
                self.check_no_text(text.replace(" ", "  ", 1))
                self.check_no_text("  ".join(text.rsplit(" ", 1)))
                self.check_no_text(text.replace(" ", "\n", 1))
                self.check_no_text(text.replace(" ", "\t", 1))
                self.check_no_text(text.replace(" ", "", 1))

    def test_line_feeds(self):
        for step, text in TEXTS:
            self.check_no_text(text + "\n")
            self.check_no_text("\n" + text)
            self.check_no_text(text + "\n" + text)

    def test_a_missing_or_an_additional_word(self):
        for step, text in TEXTS:
            if text != "fail":
                self.check_no_text(text.rpartition(" ")[0])
                self.check_no_text(text.partition(" ")[2])
            for word in ("a", "m", "1", "0", "-1", "fail"):
                self.check_no_text(text + " " + word)

    def test_numbers_that_are_written_otherwise(self):
        words = ["01", "-01", "00", "-0", "+1", "+0", "-", "--1", "1-", "1_0", "0x1", "1.0", "1e1", "a", "\u0661", "True"]
        for word in words:
            self.check_no_text("set a " + word)
            self.check_no_text("skip a " + word)
        self.check_no_text("skip a 0")
        self.check_no_text("skip a -1")
        self.assertEqual(parse_step("set a 0"), ("set", "a", 0))
        self.assertEqual(parse_step("skip a 1"), ("skip", "a", 1))

    def test_words_that_do_not_fit(self):
        texts = ["set e 1", "set A 1", "set 1 a", "add a e", "add a 1", "skip m 1", "export 1 a", "export X a"]
        texts += ["export abcdefghi a", "export x e", "read a m", "read e m x", "read a M x", "read a m 1", "need 1"]
        texts += ["need M", "need abcdefghi", "need a-b", "try m e", "try 1 a", "try m 1", "jump a", "FAIL", "fails"]
        for text in texts:
            self.check_no_text(text)

    def test_texts_without_a_step(self):
        for text in ("", " ", "  ", "\n", "a", "1", ";", "set", "need", "try m", "()", "('fail',)", "module m"):
            self.check_no_text(text)

    def test_values_that_are_not_strings(self):
        for value in NO_NUMBERS_NO_STRINGS + [0, 1, (), ("fail",), ("set", "a", 1)]:
            self.check_no_text(value)


if __name__ == "__main__":
    unittest.main()
