"""Frames [2, 5, 6, 10]."""

import copy
import inspect
import itertools
import unittest

from cycleready.errors import InvalidNumber, InvalidProgram, WrongStep
from cycleready.frames import Frame
from values import NO_NUMBERS_NO_STRINGS, NO_STEPS, Number, Word, is_same

BIG = 123456789012345678901234567890
ZEROS = {"a": 0, "b": 0, "c": 0, "d": 0}
PLAIN = [("set", "a", 2), ("set", "d", -3), ("add", "a", "b"), ("add", "c", "c"), ("skip", "a", 1)]
WITH_VALUE = [("read", "b", "m", "x"), ("try", "m", "b")]
WITHOUT_VALUE = [("export", "x", "a"), ("need", "m"), ("fail",)]
NO_INTEGERS = NO_NUMBERS_NO_STRINGS + ["", "0", "1", "a", (), (1,)]


class FrameCase(unittest.TestCase):
    def state(self, frame):
        return [frame.next_index(), frame.next_step(), frame.variables(), frame.is_over(), len(frame)]

    def check(self, frame, position, length, **values):
        """The frame is at this position after so many steps, and its variables are 0 but for these."""
        self.assertTrue(is_same(frame.next_index(), position))
        self.assertEqual(len(frame), length)
        self.assertEqual(frame.variables(), {**ZEROS, **values})
        self.assertEqual(list(frame.variables()), ["a", "b", "c", "d"])

    def check_wrong_step(self, frame, function, **named):
        before = self.state(frame)
        with self.assertRaises(WrongStep) as caught:
            function(**named)
        self.assertTrue(is_same(caught.exception.position, before[0]))
        self.assertEqual(self.state(frame), before)

    def check_invalid_number(self, frame, **named):
        before = self.state(frame)
        with self.assertRaises(InvalidNumber) as caught:
            frame.pass_step(**named)
        self.assertNotEqual(str(caught.exception), "")
        self.assertEqual(self.state(frame), before)


class Beginnings(FrameCase):
    def test_a_new_frame(self):
        frame = Frame([("fail",), ("need", "m")])
        self.check(frame, 0, 0)
        self.assertEqual(frame.next_step(), ("fail",))
        self.assertIs(frame.is_over(), False)
        self.assertIs(type(frame.next_step()), tuple)

    def test_an_empty_program(self):
        frame = Frame([])
        self.check(frame, 0, 0)
        self.assertIsNone(frame.next_step())
        self.assertIs(frame.is_over(), True)

    def test_by_name(self):
        self.assertEqual(Frame(program=[("fail",)]), Frame([("fail",)]))
        self.assertEqual(list(inspect.signature(Frame).parameters), ["program"])

    def test_thirty_steps_with_modules_of_no_library(self):
        frame = Frame([("need", "absent"), ("export", "x", "a")] * 15)
        for position in range(30):
            self.check(frame, position, position)
            frame.pass_step()
        self.assertIs(frame.is_over(), True)

    def check_no_program(self, value, position):
        with self.assertRaises(InvalidProgram) as caught:
            Frame(value)
        self.assertTrue(is_same(caught.exception.position, position))

    def test_values_that_are_not_programs(self):
        values = [value for value in NO_NUMBERS_NO_STRINGS if not isinstance(value, list)]
        for value in values + [0, 1, "", "fail", (), (("fail",),), [("fail",)] * 31, Frame([])]:
            self.check_no_program(value, -1)

    def test_programs_with_a_wrong_element(self):
        for value in NO_STEPS + [("set", "a", True), ("skip", "a", 0), ("read", "a", "m"), ["fail"]]:
            self.check_no_program([value], 0)
            self.check_no_program([("fail",), ("skip", "a", 1), value], 2)
        self.check_no_program([("fail",), ("skip", "a", 1)], 1)
        self.check_no_program([("skip", "a", 2), ("fail",), None], 2)
        self.check_no_program([("skip", "a", 3), ("fail",), None], 0)

    def test_items_that_show_themselves_in_another_way(self):
        frame = Frame([("set", "a", Number.FEW), (Word.NEED, Word.MODULE), ("try", "m", "b")])
        frame.run_plain()
        self.assertEqual(repr([frame.next_step(), frame.variables()["a"]]), "[('need', 'm'), -3]")
        frame.pass_step()
        frame.pass_step(value=Number.FEW)
        self.assertEqual(repr(frame.variables()["b"]), "-3")


class PlainSteps(FrameCase):
    def run_all(self, program):
        frame = Frame(program)
        while not frame.is_over():
            self.assertIsNone(frame.run_plain())
        return frame

    def test_set(self):
        for variable, value in itertools.product("abcd", [0, 1, -1, BIG, -BIG]):
            self.check(self.run_all([("set", variable, value)]), 1, 1, **{variable: value})
        self.check(self.run_all([("set", "a", 5), ("set", "a", 0)]), 2, 2)

    def test_add(self):
        for one, other in itertools.permutations("abcd", 2):
            frame = self.run_all([("set", one, 5), ("set", other, -7), ("add", one, other)])
            self.check(frame, 3, 3, **{one: -2, other: -7})
        self.check(self.run_all([("add", "a", "b"), ("add", "c", "c")]), 2, 2)

    def test_add_to_itself(self):
        self.check(self.run_all([("set", "b", 3), ("add", "b", "b"), ("add", "b", "b")]), 3, 3, b=12)
        doubled = [("set", "a", BIG)] + [("add", "a", "a")] * 29
        self.check(self.run_all(doubled), 30, 30, a=BIG * 2 ** 29)

    def test_a_skip_that_is_taken(self):
        for value in (1, 2, BIG):
            frame = Frame([("set", "c", value), ("skip", "c", 2), ("set", "a", 1), ("set", "b", 1), ("set", "d", 4)])
            frame.run_plain()
            frame.run_plain()
            self.check(frame, 4, 2, c=value)
            self.assertEqual(frame.next_step(), ("set", "d", 4))
            frame.run_plain()
            self.check(frame, 5, 3, c=value, d=4)

    def test_a_skip_that_is_not_taken(self):
        for value in (0, -1, -BIG):
            frame = Frame([("set", "c", value), ("skip", "c", 2), ("set", "a", 1), ("set", "b", 1)])
            frame.run_plain()
            frame.run_plain()
            self.check(frame, 2, 2, c=value)
            self.assertEqual(frame.next_step(), ("set", "a", 1))

    def test_a_skip_looks_at_its_own_variable(self):
        frame = self.run_all([("set", "a", 1), ("set", "b", -1), ("skip", "b", 1), ("set", "d", 7)])
        self.check(frame, 4, 4, a=1, b=-1, d=7)

    def test_a_skip_to_the_end(self):
        for length in (1, 5, 28):
            frame = Frame([("set", "a", 1), ("skip", "a", length)] + [("fail",)] * length)
            frame.run_plain()
            frame.run_plain()
            self.check(frame, length + 2, 2, a=1)
            self.assertIs(frame.is_over(), True)
            self.assertIsNone(frame.next_step())
            self.check_wrong_step(frame, frame.run_plain)
            self.check_wrong_step(frame, frame.pass_step)

    def test_a_skip_over_each_kind_of_step(self):
        others = PLAIN[:4] + WITH_VALUE + WITHOUT_VALUE
        frame = Frame([("set", "a", 1), ("skip", "a", len(others))] + others + [("need", "k")])
        frame.run_plain()
        frame.run_plain()
        self.check(frame, len(others) + 2, 2, a=1)
        self.assertEqual(frame.next_step(), ("need", "k"))

    def test_wrong_steps(self):
        for step in WITH_VALUE + WITHOUT_VALUE:
            frame = Frame([step, ("set", "a", 1)])
            self.check_wrong_step(frame, frame.run_plain)
            frame = Frame([("set", "c", 8), step])
            frame.run_plain()
            self.check_wrong_step(frame, frame.run_plain)
            self.assertEqual(frame.next_index(), 1)

    def test_at_the_end(self):
        frame = Frame([])
        self.check_wrong_step(frame, frame.run_plain)
        frame = self.run_all([("set", "a", 1), ("set", "b", 2)])
        self.check_wrong_step(frame, frame.run_plain)
        self.assertEqual(frame.next_index(), 2)


class PassedSteps(FrameCase):
    def test_read_and_try(self):
        for variable, value in itertools.product("abcd", [0, 1, -1, 2, BIG, -BIG]):
            for step in (("read", variable, "m", "x"), ("try", "m", variable)):
                frame = Frame([step, ("fail",)])
                self.assertIsNone(frame.pass_step(value=value))
                self.check(frame, 1, 1, **{variable: value})

    def test_names_that_look_like_variables(self):
        frame = Frame([("read", "b", "a", "c"), ("try", "a", "d")])
        frame.pass_step(value=5)
        frame.pass_step(value=6)
        self.check(frame, 2, 2, b=5, d=6)

    def test_a_given_value_replaces_the_old_one(self):
        frame = Frame([("set", "a", 9), ("read", "a", "m", "x"), ("try", "m", "a")])
        frame.run_plain()
        frame.pass_step(value=-1)
        self.check(frame, 2, 2, a=-1)
        frame.pass_step(value=0)
        self.check(frame, 3, 3)

    def test_the_other_steps(self):
        for step in WITHOUT_VALUE:
            frame = Frame([step, ("set", "a", 1)])
            self.assertIsNone(frame.pass_step())
            self.check(frame, 1, 1)
            frame = Frame([("set", "a", 1), step])
            frame.run_plain()
            self.assertIsNone(frame.pass_step(value=None))
            self.check(frame, 2, 2, a=1)
            self.assertIs(frame.is_over(), True)

    def test_plain_steps(self):
        for step in PLAIN:
            for named in ({}, {"value": 1}, {"value": "a"}):
                frame = Frame([step, ("fail",)])
                self.check_wrong_step(frame, frame.pass_step, **named)
                frame = Frame([("need", "m"), step, ("fail",)])
                frame.pass_step()
                self.check_wrong_step(frame, frame.pass_step, **named)
                self.assertEqual(frame.next_index(), 1)

    def test_at_the_end(self):
        for named in ({}, {"value": 1}, {"value": "a"}):
            frame = Frame([])
            self.check_wrong_step(frame, frame.pass_step, **named)
            frame = Frame([("fail",)])
            frame.pass_step()
            self.check_wrong_step(frame, frame.pass_step, **named)

    def test_values_that_are_not_integers(self):
        for step in WITH_VALUE:
            frame = Frame([("set", "b", 4), step])
            frame.run_plain()
            self.check_invalid_number(frame)
            for value in NO_INTEGERS:
                self.check_invalid_number(frame, value=value)
            frame.pass_step(value=1)
            self.check(frame, 2, 2, b=1)

    def test_values_where_none_is_taken(self):
        for step in WITHOUT_VALUE:
            frame = Frame([("set", "b", 4), step])
            frame.run_plain()
            for value in NO_INTEGERS + [0, 1, -1, BIG]:
                if value is not None:
                    self.check_invalid_number(frame, value=value)
            frame.pass_step()
            self.check(frame, 2, 2, b=4)

    def test_the_value_is_passed_by_name(self):
        parameters = inspect.signature(Frame.pass_step).parameters
        self.assertEqual(list(parameters), ["self", "value"])
        self.assertIs(parameters["value"].kind, inspect.Parameter.KEYWORD_ONLY)
        self.assertIsNone(parameters["value"].default)
        frame = Frame([("read", "a", "m", "x")])
        with self.assertRaises(TypeError):
            frame.pass_step(1)
        self.check(frame, 0, 0)


class Equality(FrameCase):
    def test_programs(self):
        programs = [[], [("fail",)], [("fail",), ("fail",)], [("set", "a", 0)], [("set", "a", 1)], [("set", "b", 1)]]
        for one, other in itertools.product(range(len(programs)), repeat=2):
            self.assertIs(Frame(programs[one]) == Frame(list(programs[other])), one == other)
            self.assertIs(Frame(programs[one]) != Frame(list(programs[other])), one != other)

    def test_positions(self):
        one, other = Frame([("fail",), ("fail",)]), Frame([("fail",), ("fail",)])
        one.pass_step()
        self.assertIs(one == other, False)
        other.pass_step()
        self.assertIs(one == other, True)

    def test_variables(self):
        one, other = Frame([("try", "m", "a"), ("fail",)]), Frame([("try", "m", "a"), ("fail",)])
        one.pass_step(value=1)
        other.pass_step(value=0)
        self.assertIs(one == other, False)

    def test_different_numbers_of_steps(self):
        program = [("read", "a", "m", "x"), ("skip", "a", 1), ("need", "m"), ("set", "a", 0), ("fail",)]
        one, other = Frame(program), Frame(program)
        one.pass_step(value=1)
        one.run_plain()
        other.pass_step(value=0)
        other.run_plain()
        other.pass_step()
        self.assertIs(one == other, False)
        one.run_plain()
        other.run_plain()
        self.assertEqual([len(one), len(other)], [3, 4])
        self.assertIs(one == other, True)
        self.assertIs(one != other, False)

    def test_other_values(self):
        for frame in (Frame([]), Frame([("fail",)])):
            for value in NO_NUMBERS_NO_STRINGS + [0, 1, "", (), [("fail",)], frame.variables()]:
                self.assertIs(frame == value, False)
                self.assertIs(frame != value, True)


class Copies(FrameCase):
    PROGRAM = [("set", "a", 2), ("read", "b", "m", "x"), ("skip", "a", 1), ("fail",), ("need", "m")]

    def advance(self, frame):
        """Do the next step of a frame, a read with 7."""
        if frame.next_step()[0] in ("set", "skip"):
            frame.run_plain()
        else:
            frame.pass_step(value=7 if frame.next_step()[0] == "read" else None)

    def test_clones_at_each_position(self):
        frame = Frame(self.PROGRAM)
        while True:
            other = frame.clone()
            self.assertIs(type(other), Frame)
            self.assertIsNot(other, frame)
            self.assertIs(other == frame, True)
            self.assertEqual(self.state(other), self.state(frame))
            if frame.is_over():
                break
            self.advance(frame)
        self.check(frame, 5, 4, a=2, b=7)

    def test_a_clone_is_independent_in_both_directions(self):
        for first, second in ((0, 1), (1, 0)):
            frame = Frame(self.PROGRAM)
            self.advance(frame)
            frames = [frame, frame.clone()]
            before = self.state(frames[second])
            self.advance(frames[first])
            self.advance(frames[first])
            self.assertEqual(self.state(frames[second]), before)
            self.assertIs(frames[first] == frames[second], False)
            self.advance(frames[second])
            self.advance(frames[second])
            self.assertIs(frames[first] == frames[second], True)

    def test_frames_of_one_program_are_independent(self):
        one, other = Frame(self.PROGRAM), Frame(self.PROGRAM)
        self.advance(one)
        self.check(one, 1, 1, a=2)
        self.check(other, 0, 0)

    def test_the_argument_is_unchanged(self):
        program = copy.deepcopy(self.PROGRAM)
        frame = Frame(program)
        while not frame.is_over():
            self.advance(frame)
        self.assertEqual(program, self.PROGRAM)

    def test_later_changes_of_the_program(self):
        program = copy.deepcopy(self.PROGRAM)
        frame = Frame(program)
        program[0] = ("fail",)
        program.append(("fail",))
        self.assertEqual(frame, Frame(self.PROGRAM))
        self.assertEqual(frame.next_step(), ("set", "a", 2))
        program.clear()
        while not frame.is_over():
            self.advance(frame)
        self.check(frame, 5, 4, a=2, b=7)

    def test_changes_of_returned_dicts(self):
        frame = Frame(self.PROGRAM)
        self.advance(frame)
        found = frame.variables()
        found["a"] = -9
        found["e"] = 1
        del found["b"]
        self.check(frame, 1, 1, a=2)
        self.assertIsNot(frame.variables(), frame.variables())

    def test_repeated_questions(self):
        frame = Frame(self.PROGRAM)
        self.advance(frame)
        self.assertEqual(self.state(frame), self.state(frame))


if __name__ == "__main__":
    unittest.main()
