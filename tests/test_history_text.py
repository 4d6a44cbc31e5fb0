"""Histories as text [2, 4, 8, 26]."""

import inspect
import random
import unittest

from cycleready.history_text import dump_history, replay
from cycleready.library import Library
from cycleready.programs import is_step, parse_step
from cycleready.world import World, run
from drawn import drawn_library, drawn_program
from values import NO_NUMBERS_NO_STRINGS, is_same, tried
from world_model import shown
from worlds import made

PROGRAMS = {"m": [("set", "a", 5), ("export", "x", "a")], "n": [("need", "m")], "f": [("fail",)]}
LIBRARY = Library(PROGRAMS)
EVERY_STEP = [("set", "a", -12), ("set", "b", 0), ("add", "c", "d"), ("skip", "a", 3), ("read", "b", "m", "x"), ("need", "n"),
              ("try", "f", "c"), ("fail",)]


def rich():
    """A world with each kind of operation in its history."""
    world = made(PROGRAMS, t=[("need", "n"), ("try", "f", "a")])
    run(world)
    world.retry("f")
    world.unload()
    world.add_thread("s", EVERY_STEP)
    run(world, limit=20)
    return world


class TextCase(unittest.TestCase):
    def check_back(self, world):
        """The text of a history is performed again, and leads to an equal world with the same history."""
        text = dump_history(world)
        other = replay(world.library(), text)
        self.assertIs(type(other), World)
        self.assertIs(other == world, True)
        self.assertEqual([shown(other), other.history()], [shown(world), world.history()])
        self.assertEqual(dump_history(other), text)

    def check_wrong(self, text, line):
        found = tried(replay, LIBRARY, text)
        said = repr(text) if isinstance(text, str) else ""
        self.assertEqual(found[0], "InvalidText", msg=said)
        self.assertTrue(is_same(found[1], line), msg=f"{said} {found[1]}")


class Texts(TextCase):
    def test_a_new_world(self):
        self.assertEqual(dump_history(World(LIBRARY)), "")
        self.assertIs(replay(LIBRARY, "") == World(LIBRARY), True)
        self.assertEqual(len(replay(LIBRARY, "")), 0)

    def test_each_operation(self):
        world = made(PROGRAMS, t=[("try", "f", "a")])
        for count in range(4):
            world.act("t")
        world.retry("f")
        world.unload()
        self.assertEqual(dump_history(world), "thread t\n  try f a\n" + "act t\n" * 4 + "retry f\nunload\n")
        self.assertEqual(dump_history(world=world), dump_history(world))
        self.check_back(world)

    def test_each_step(self):
        world = made(PROGRAMS, t=EVERY_STEP)
        lines = ["thread t", "  set a -12", "  set b 0", "  add c d", "  skip a 3", "  read b m x", "  need n", "  try f c",
                 "  fail", ""]
        self.assertEqual(dump_history(world), "\n".join(lines))
        self.check_back(world)
        run(world)
        self.check_back(world)

    def test_an_empty_program_and_thirty_steps(self):
        self.assertEqual(dump_history(made(PROGRAMS, t=[])), "thread t\n")
        self.check_back(made(PROGRAMS, t=[], s=[]))
        self.check_back(made(PROGRAMS, t=[("skip", "a", 29)] + [("need", "m")] * 29))

    def test_eight_threads(self):
        self.check_back(made(PROGRAMS, **{name: [("need", "n")] for name in "abcdefgh"}))

    def test_after_undo(self):
        world = rich()
        while len(world) > 0:
            self.check_back(world)
            world.undo(count=min(3, len(world)))
        self.check_back(world)

    def test_parameters(self):
        self.assertEqual(list(inspect.signature(dump_history).parameters), ["world"])
        self.assertEqual(list(inspect.signature(replay).parameters), ["library", "text"])
        self.assertIs(replay(library=LIBRARY, text="unload\n") == World(LIBRARY), True)

    def test_worlds_are_independent(self):
        world = made(PROGRAMS, t=[("need", "m")])
        text = dump_history(world)
        one, other = replay(LIBRARY, text), replay(LIBRARY, text)
        run(one)
        self.assertIs(other == world, True)
        self.assertEqual(dump_history(world), text)
        self.assertEqual(LIBRARY, Library(PROGRAMS))

    def test_a_name_that_is_an_operation(self):
        world = made({"act": [], "unload": []}, thread=[("need", "act")], retry=[("try", "unload", "a")])
        run(world)
        self.check_back(world)


class WrongTexts(TextCase):
    def test_values_that_are_not_strings(self):
        for value in NO_NUMBERS_NO_STRINGS + [0, 1, (), ("unload\n",), World(LIBRARY)]:
            self.check_wrong(value, 0)

    def test_lines_that_are_no_operation(self):
        for line in ("", " ", "  ", "unloa", "Unload", "unload ", " unload", "unload m", "retry", "act", "thread", "undo 1",
                     "run", "fail", "  fail", " fail", "   fail", ";", "module m", "actt", "act\tt", "threads", "thread t u"):
            self.check_wrong(f"{line}\n", 1)
            self.check_wrong(f"unload\n{line}\n", 2)
            self.check_wrong(f"unload\n{line}\nunload\nunload", 2)

    def test_no_line_feed(self):
        for line in ("unload", "thread t", "junk"):
            self.check_wrong(line, 1)
            self.check_wrong(f"unload\n{line}", 2)
        self.check_wrong("thread t\nact t", 2)
        self.check_wrong("thread t\n  fail", 2)
        self.check_wrong("thread t\n  try f a\nact t\nact t\nact t\nact t\nretry f", 7)
        self.check_wrong(" ", 1)

    def test_an_empty_line(self):
        self.check_wrong("\n", 1)
        self.check_wrong("unload\n\n", 2)
        self.check_wrong("unload\n\nunload\n", 2)
        self.check_wrong("thread t\n\n  fail\n", 2)

    def test_names_of_threads(self):
        for name in ("", " ", "T", "abcdefghi", "t ", " t", "t1", "t u", ";", "-"):
            self.check_wrong(f"thread {name}\n", 1)
            self.check_wrong(f"thread {name}\n  junk\n", 1)
        self.check_wrong("thread t\nthread t\n", 2)
        self.check_wrong("thread t\nact t\nthread t\n  junk\n", 3)

    def test_nine_threads(self):
        eight = "".join(f"thread {name}\n" for name in "abcdefgh")
        self.assertEqual(len(replay(LIBRARY, eight)), 8)
        for rest in ("", "  need m\n", "  junk\n", "  need k"):
            self.check_wrong(f"{eight}thread i\n{rest}", 9)
        self.check_wrong(f"{eight}thread a\n  junk\n", 9)

    def test_actions_that_raise_errors(self):
        for thread in ("u", "T", "", " t", "t ", "t t", "m"):
            self.check_wrong(f"thread t\nact {thread}\n", 2)
        self.check_wrong("act t\n", 1)
        self.check_wrong("thread t\nact t\nact t\n", 3)
        self.check_wrong("thread t\n  fail\nact t\nact t\n", 4)
        self.check_wrong("thread s\n  need m\nthread t\n  need m\nact s\nact t\nact t\n", 7)

    def test_retries_that_raise_errors(self):
        for module in ("k", "M", "", " f", "f ", "f f", "m", "f"):
            self.check_wrong(f"retry {module}\n", 1)
        begin = "thread t\n  need f\nact t\nact t\n"
        self.check_wrong(f"{begin}retry f\n", 5)
        self.check_wrong(f"{begin}act t\nretry f\n", 6)
        self.assertEqual(replay(LIBRARY, f"{begin}act t\nact t\nretry f\n").state_of("f"), "new")

    def test_step_lines(self):
        for line in ("  junk", "  set a 01", "  set a", "   fail", "  fail ", "  need k", "  try k a", "  read a k x",
                     "  export x a", "  skip a 0", "  skip a 2", "  skip a 9", "  need  m", "  ", "  set a +1", "  set e 1"):
            self.check_wrong(f"thread t\n{line}\n  fail\n", 2)
            self.check_wrong(f"thread t\n  need m\n  try m a\n{line}\n  fail\nact u\n", 4)

    def test_the_first_wrong_step_line(self):
        self.check_wrong("thread t\n  export x a\n  junk\n", 2)
        self.check_wrong("thread t\n  junk\n  export x a\n", 2)
        self.check_wrong("thread t\n  skip a 1\n  junk\n", 3)
        self.check_wrong("thread t\n  skip a 2\n  junk\n", 2)
        self.check_wrong("thread t\n  need k\n  skip a 5\n  fail", 2)

    def test_a_last_step_line_without_line_feed(self):
        self.check_wrong("thread t\n  skip a 1\n  fail", 3)
        self.check_wrong("thread t\n  skip a 2\n  fail", 2)
        self.check_wrong("thread t\n  fail\n  skip a 1", 3)

    def test_thirty_one_steps(self):
        self.check_wrong("thread t\n" + "  fail\n" * 31, 32)
        self.check_wrong("thread t\n" + "  fail\n" * 40, 32)
        # A skip over the thirty-first step line is not wrong by itself.
        self.check_wrong("thread t\n  skip a 30\n" + "  fail\n" * 30, 32)
        self.check_wrong("thread t\n  skip a 31\n" + "  fail\n" * 30, 2)
        self.check_wrong("thread t\n" + "  fail\n" * 29 + "  skip a 1\n  fail\n", 32)
        self.assertEqual(len(replay(LIBRARY, "thread t\n" + "  fail\n" * 30)), 1)

    def test_step_lines_of_other_lines(self):
        self.check_wrong("unload\n  fail\n", 2)
        self.check_wrong("thread t\n  fail\nact t\n  fail\n", 4)

    def test_skips_count_only_the_step_lines_of_their_thread(self):
        self.check_wrong("thread t\n  skip a 1\nthread s\n  fail\n", 2)

    def test_the_first_of_several_wrong_lines(self):
        self.check_wrong("unload\nact t\njunk\n", 2)
        self.check_wrong("thread t\n  fail\nact u\nact t\njunk", 3)
        self.check_wrong("thread t\n  need k\nact u\n", 2)

    def test_a_library_of_another_world(self):
        text = "thread t\n  need m\nact t\n"
        self.assertEqual(tried(replay, Library({"k": []}), text), ("InvalidText", 2))


class AgainstAJudge(TextCase):
    """Texts that are changed in one place; a second judgement says which line is the first wrong one."""

    def first_wrong(self, text):
        """The number of the first wrong line, or None."""
        if text == "":
            return None
        lines = text.split("\n")
        ends_well = lines[-1] == ""
        lines = lines[:-1] if ends_well else lines
        world = World(LIBRARY)
        program, begun = [], None
        for at, line in enumerate(lines + [None], start=1):
            if line is not None and line.startswith("  ") and begun is not None:
                if not self.is_fine(line[2:], lines, at, len(program)):
                    return at
                program.append(parse_step(line[2:]))
                continue
            if begun is not None:
                world.add_thread(begun, program)
                begun, program = None, []
            if line is None:
                break
            word, _, name = line.partition(" ")
            if word == "thread":
                if tried(world.clone().add_thread, name, [])[0] != "returned":
                    return at
                begun = name
            elif line == "unload":
                world.unload()
            elif word not in ("act", "retry") or tried(getattr(world, word), name)[0] != "returned":
                return at
        return None if ends_well else len(lines)

    def is_fine(self, text, lines, at, before):
        found = tried(parse_step, text)
        if found[0] != "returned" or before >= 30 or found[1][0] == "export":
            return False
        later = 0
        while at + later < len(lines) and lines[at + later].startswith("  "):
            later += 1
        step = found[1]
        assert is_step(step)
        modules = {"need": step[1:2], "try": step[1:2], "read": step[2:3]}.get(step[0], ())
        return not (step[0] == "skip" and step[2] > later) and all(module in PROGRAMS for module in modules)

    def changed(self, text, draw):
        """A text with a line that is removed, repeated, exchanged, or with a character that is."""
        lines = text.split("\n")
        at = draw.randrange(len(lines))
        way = draw.randrange(6)
        if way == 0:
            del lines[at]
        elif way == 1:
            lines.insert(at, draw.choice(lines))
        elif way == 2:
            lines.insert(at, draw.choice(["unload", "act s", "act t", "retry f", "  fail", "thread u", "  skip a 2", "  export x a"]))
        elif way == 3:
            other = draw.randrange(len(lines))
            lines[at], lines[other] = lines[other], lines[at]
        elif way == 4:
            return text[:draw.randrange(len(text) + 1)]
        else:
            place = draw.randrange(len(text) + 1)
            return text[:place] + draw.choice("ast \nk") + text[place + draw.randrange(2):]
        return "\n".join(lines)

    def test_changed_texts(self):
        draw = random.Random(27)
        text = dump_history(rich())
        wrong = 0
        for count in range(1500):
            other = self.changed(text, draw)
            expected = self.first_wrong(other)
            wrong += expected is not None
            if expected is None:
                self.assertEqual(dump_history(replay(LIBRARY, other)), other)
            else:
                self.check_wrong(other, expected)
        self.assertGreater(wrong, 500)
        self.assertLess(wrong, 1400)


class RandomWorlds(TextCase):
    def test_replayed(self):
        draw = random.Random(28)
        for count in range(60):
            programs = drawn_library(draw, draw.randint(1, 5), 6)
            world = World(Library(programs))
            for name in "uvw":
                world.add_thread(name, drawn_program(draw, sorted(programs), 5, is_main=True))
                for step in range(draw.randrange(30)):
                    if world.can_run():
                        world.act(draw.choice(world.can_run()))
                    if draw.random() < 0.1:
                        world.unload()
                    if draw.random() < 0.3:
                        tried(world.retry, draw.choice(sorted(programs)))
            self.check_back(world)
            run(world)
            self.check_back(world)


if __name__ == "__main__":
    unittest.main()
