"""Consoles [2, 27]."""

import enum
import inspect
import random
import unittest

from cycleready.certificates import waiting_path
from cycleready.console import Console
from cycleready.errors import CommandFailed, InvalidCommand
from cycleready.history_text import dump_history, replay
from cycleready.library import Library
from cycleready.world import World, run
from drawn import drawn_library, drawn_program
from values import NO_NUMBERS_NO_STRINGS, are_same, is_same, tried
from world_model import shown
from worlds import made

PROGRAMS = {
    "m": [("set", "a", 5), ("export", "x", "a"), ("set", "a", -3), ("export", "b", "a")],
    "n": [("need", "m"), ("read", "b", "m", "x")],
    "f": [("fail",)],
    "g": [("need", "f")],
    "p": [("need", "q"), ("set", "a", 1)],
    "q": [("need", "p")],
}
WORDLESS = ["unload", "needs", "can", "threads", "history"]
WITH_NAME = ["act", "retry", "state", "exports", "stack", "status", "variables", "why"]
NO_COMMANDS = NO_NUMBERS_NO_STRINGS + [0, 1, (), ("can",), ["can"], b"can"]


class Many(int, enum.Enum):
    """A count that shows itself in another way."""

    SEVERAL = 3


def world_of(**mains):
    return made(PROGRAMS, **mains)


class ConsoleCase(unittest.TestCase):
    def state(self, console):
        world = console.world()
        return [shown(world), world.history(), console.limit]

    def check_answers(self, console, *rows):
        """Each command gets its answer."""
        for command, answer in rows:
            found = console.answer(command)
            self.assertEqual([command, found], [command, answer])
            self.assertIs(type(found), str)

    def check_error(self, console, expected, command):
        """The command raises this error, and nothing changes."""
        before = self.state(console)
        found = tried(console.answer, command)
        self.assertEqual(found[0], expected[0], msg=command if isinstance(command, str) else "")
        self.assertTrue(are_same(found, expected))
        self.assertEqual(self.state(console), before)

    def check_invalid(self, console, *commands):
        for command in commands:
            self.check_error(console, ("InvalidCommand",), command)


class Worlds(ConsoleCase):
    def test_the_world_is_copied(self):
        world = world_of(t=[("need", "m")])
        console = Console(world)
        self.assertIs(console.world() == world, True)
        self.assertEqual(console.world().history(), world.history())
        world.act("t")
        self.assertEqual(console.world().events(), [])
        console.answer("run")
        self.assertEqual(len(world.events()), 1)

    def test_the_world_that_is_returned_is_a_copy(self):
        console = Console(world=world_of(t=[]))
        console.world().act("t")
        self.assertEqual(console.answer("status t"), "running")
        self.assertIsNot(console.world(), console.world())
        self.assertIs(type(console.world()), World)

    def test_consoles_are_independent(self):
        world = world_of(t=[("need", "m")])
        one, other = Console(world), Console(world)
        one.answer("run")
        one.limit = 3
        self.assertEqual([other.answer("status t"), other.limit], ["running", 5000])

    def test_parameters(self):
        self.assertEqual(list(inspect.signature(Console).parameters), ["world"])
        self.assertEqual(list(inspect.signature(Console.answer).parameters), ["self", "command"])
        self.assertEqual(list(inspect.signature(Console.answer_all).parameters), ["self", "commands"])
        self.assertIsInstance(inspect.getattr_static(Console, "limit"), property)
        self.assertEqual(Console(world_of()).answer(command="threads"), "-")
        self.assertEqual(Console(world_of()).answer_all(commands=["threads"]), ["-"])


class Commands(ConsoleCase):
    def test_thread(self):
        console = Console(world_of())
        self.check_answers(console, ("thread t", "ok"), ("thread s ; fail", "ok"), ("threads", "s t"),
                           ("thread u ; set a -12 ; add b a ; skip a 3 ; read c m x ; need n ; try f d ; fail", "ok"))
        program = (("set", "a", -12), ("add", "b", "a"), ("skip", "a", 3), ("read", "c", "m", "x"), ("need", "n"),
                   ("try", "f", "d"), ("fail",))
        self.assertEqual(console.world().history(), [("thread", "t", ()), ("thread", "s", (("fail",),)), ("thread", "u", program)])

    def test_thread_that_is_no_command(self):
        self.check_invalid(Console(world_of()), "thread", "thread t ;", "thread t fail", "thread t ; ; fail", "thread t ; fail ;",
                           "thread t ;fail", "thread t; fail", "thread t ; fail; fail", "thread t ; jump", "thread t ; set a",
                           "thread t ; set a 01", "thread t ; set a +1", "thread t ; set a -0", "thread t ; set e 1",
                           "thread t ; need M", "thread t ; skip a 0", "thread t ; fail fail", "thread t need m ; fail",
                           "thread t ; set a 1 2", "thread  t", "thread t ", "thread t  ; fail", " thread t", "thread t\n")

    def test_thread_that_raises_errors(self):
        console = Console(world_of(t=[]))
        for word in ("T", "t1", "abcdefghi", ";", "-", "t;", "1"):
            self.check_error(console, ("InvalidName", word), f"thread {word}")
            self.check_error(console, ("InvalidName", word), f"thread {word} ; fail")
        self.check_error(console, ("NameTaken", "t"), "thread t ; need k")
        self.check_error(console, ("InvalidProgram", 1), "thread s ; fail ; need k")
        self.check_error(console, ("InvalidProgram", 0), "thread s ; export x a")
        self.check_error(console, ("InvalidProgram", 0), "thread s ; skip a 2 ; fail")
        self.check_error(console, ("InvalidProgram", -1), "thread s" + " ; fail" * 31)
        self.check_answers(console, ("thread s" + " ; fail" * 30, "ok"))
        for name in "uvwxyz":
            console.answer(f"thread {name}")
        self.check_error(console, ("TooMany", 8), "thread a")

    def test_act(self):
        console = Console(world_of(s=[("need", "n"), ("add", "a", "a")], t=[("try", "g", "a"), ("need", "f")]))
        self.check_answers(
            console, ("act s", "request - n started"), ("act s", "request n m started"), ("act s", "step m set a 5"),
            ("act s", "step m export x a"), ("act s", "step m set a -3"), ("act s", "step m export b a"),
            ("act s", "finish m m"), ("act s", "continue n m ready"), ("act s", "step n read b m x"), ("act s", "finish n n"),
            ("act s", "continue - n ready"), ("act s", "step - add a a"), ("act s", "end"),
            ("act t", "request - g started"), ("act t", "request g f started"), ("act t", "fail f f"), ("act t", "remove f"),
            ("act t", "fail g g"), ("act t", "remove g"), ("act t", "continue - g failed"), ("act t", "request - f present"),
            ("act t", "fail -"),
        )
        self.check_error(console, ("HasEnded", "s"), "act s")
        self.check_error(console, ("HasEnded", "t"), "act t")

    def test_act_in_a_cycle(self):
        console = Console(world_of(s=[("need", "p")], t=[("need", "q")]))
        self.check_answers(
            console, ("act s", "request - p started"), ("act t", "request - q started"), ("act s", "request p q present"),
            ("status s", "running q"), ("why s", "q"), ("can", "t"),
        )
        self.check_error(console, ("MustWait", "p", "q"), "act s")
        self.check_answers(
            console, ("act t", "request q p present"), ("act t", "continue q p early"), ("act t", "finish q"),
            ("status t", "running q"), ("why t", "q p"), ("act s", "continue p q early"), ("act s", "step p set a 1"),
            ("act s", "finish p p q"), ("needs", "p:q q:p"), ("can", "s t"),
        )
        self.check_error(console, ("NotWaiting", "t"), "why t")

    def test_several_modules_that_fail(self):
        world = World(Library({"p": [("need", "q"), ("fail",)], "q": [("need", "p")]}))
        console = Console(world)
        self.check_answers(console, ("thread t ; need p", "ok"), ("run 0 0 0 0", "9"))
        self.assertEqual(console.world().events()[6], ("fail", "t", "p", ("p", "q")))
        self.check_answers(console, ("undo 3", "7"), ("act t", "fail p p q"), ("state q", "failed"), ("act t", "remove p"))

    def test_run(self):
        console = Console(world_of(s=[("set", "a", 1)], t=[("set", "a", 2)]))
        self.check_answers(console, ("run 1 1 0", "4"), ("run", "0"), ("run 5 6 7", "0"))
        self.assertEqual([event[1] for event in console.world().events()], ["t", "t", "s", "s"])
        self.check_invalid(console, "run -1", "run +1", "run 01", "run 00", "run 1 x", "run  1", "run 1 ", "run 1,2", "run a",
                           "run 1.5", "run -0", "run 0x1", "run 1_0")

    def test_run_with_a_limit(self):
        console = Console(world_of(t=[("set", "a", 1)] * 9))
        console.limit = 4
        self.assertEqual(tried(console.answer, "run"), ("TooMany", 4))
        # The actions stay performed.
        self.assertEqual([len(console.world().events()), console.answer("variables t")], [4, "1 0 0 0"])
        self.assertEqual(tried(console.answer, "run 0 0"), ("TooMany", 4))
        self.assertEqual([console.answer("run"), console.answer("status t")], ["2", "ended"])

    def test_limit(self):
        console = Console(world_of(t=[("set", "a", 1)] * 9))
        self.check_answers(console, ("limit 7", "ok"), ("limit 0", "ok"))
        self.assertTrue(is_same(console.limit, 0))
        self.assertEqual(tried(console.answer, "run"), ("TooMany", 0))
        self.check_answers(console, (f"limit {10 ** 29}", "ok"), ("run", "10"), ("undo 10", "1"))
        self.assertEqual(console.limit, 10 ** 29)
        self.check_invalid(console, "limit", "limit -1", "limit 01", "limit +1", "limit x", "limit 1 2", "limit  1", "limit 1 ",
                           "limit -0", "limit 1\n")

    def test_retry(self):
        console = Console(world_of(t=[("try", "f", "a")]))
        self.check_answers(console, ("act t", "request - f started"), ("act t", "fail f f"))
        self.check_error(console, ("WrongState", "f", "failed"), "retry f")
        console.answer("act t")
        self.check_error(console, ("StillNeeded", "f"), "retry f")
        self.check_error(console, ("WrongState", "m", "new"), "retry m")
        self.check_answers(console, ("run", "2"), ("retry f", "ok"), ("state f", "new"))

    def test_unload(self):
        console = Console(world_of(t=[("need", "n")]))
        self.check_answers(console, ("unload", "ok"), ("run", "12"), ("unload", "ok m n"), ("unload", "ok"))

    def test_undo(self):
        console = Console(world_of(t=[("need", "n")]))
        self.check_answers(console, ("run", "12"), ("unload", "ok m n"), ("undo 0", "14"), ("undo 1", "13"),
                           ("state n", "ready"), ("undo 12", "1"), ("state n", "new"), ("undo 1", "0"), ("threads", "-"),
                           ("history", "-"), ("undo 0", "0"))
        self.check_error(console, ("InvalidUndo",), "undo 1")
        self.check_error(console, ("InvalidUndo",), f"undo {10 ** 29}")
        self.check_invalid(console, "undo", "undo -1", "undo 01", "undo +0", "undo 1 1", "undo x", "undo  1")

    def test_questions_about_modules(self):
        console = Console(world_of(t=[("need", "m")]))
        self.check_answers(console, ("state m", "new"), ("exports m", "-"), ("run", "8"), ("state m", "ready"),
                           ("exports m", "b=-3 x=5"), ("exports n", "-"))

    def test_questions_about_threads(self):
        console = Console(world_of(s=[("set", "b", -7), ("need", "n")], t=[("need", "n")], u=[("fail",)]))
        self.check_answers(console, ("stack s", "-"), ("status s", "running"), ("can", "s t u"), ("threads", "s t u"),
                           ("act u", "fail -"), ("status u", "failed"), ("act s", "step - set b -7"),
                           ("act s", "request - n started"), ("act s", "request n m started"), ("stack s", "n m"),
                           ("act t", "request - n present"), ("status t", "running n"), ("why t", "n m"), ("can", "s"),
                           ("variables s", "0 -7 0 0"), ("variables t", "0 0 0 0"), ("needs", "n:m"), ("run", "12"),
                           ("status t", "ended"), ("can", "-"), ("stack s", "-"), ("threads", "s t u"))

    def test_history(self):
        world = world_of(t=[("need", "m"), ("set", "a", -1)])
        world.act("t")
        console = Console(world)
        self.check_answers(console, ("history", "thread t\n  need m\n  set a -1\nact t\n"), ("unload", "ok"),
                           ("history", "thread t\n  need m\n  set a -1\nact t\nunload\n"))
        self.assertEqual(console.answer("history"), dump_history(console.world()))

    def test_an_empty_world(self):
        console = Console(world_of())
        self.check_answers(console, ("history", "-"), ("needs", "-"), ("can", "-"), ("threads", "-"), ("run", "0"))

    def test_unknown_names(self):
        console = Console(world_of(t=[]))
        for command in WITH_NAME:
            is_module = command in ("retry", "state", "exports")
            for word in ("k", "T", "-", ";", "0", "t1", "verylongname", "t,", "\ttab"):
                expected = "UnknownModule" if is_module else "UnknownThread"
                self.check_error(console, (expected, word), f"{command} {word}")
        self.check_error(console, ("UnknownThread", "m"), "stack m")
        self.check_error(console, ("UnknownModule", "t"), "state t")


class WrongCommands(ConsoleCase):
    def test_values_that_are_not_strings(self):
        self.check_invalid(Console(world_of(t=[])), *NO_COMMANDS)

    def test_numbers_of_words(self):
        console = Console(world_of(t=[]))
        for command in WORDLESS:
            self.check_invalid(console, f"{command} t", f"{command} 1", f"{command} t t", f"{command} {command}")
        for command in WITH_NAME:
            self.check_invalid(console, command, f"{command} t t", f"{command} m t", f"{command} t ; fail")

    def test_spaces_and_line_feeds(self):
        console = Console(world_of(t=[]))
        for command in WORDLESS + ["act t", "state m", "run 1", "limit 1", "undo 1", "thread s", "thread s ; fail"]:
            self.check_invalid(console, f" {command}", f"{command} ", f"{command}\n", f"\n{command}", f"{command}\n{command}",
                               command.replace(" ", "  ", 1) + ("  " if " " not in command else ""),
                               command.replace(" ", "\n", 1) + ("\n" if " " not in command else ""))
        self.check_invalid(console, "", " ", "\n", "  ", "act ", "act  t", "act t\n")

    def test_other_words(self):
        self.check_invalid(Console(world_of(t=[])), "help", "acts t", "Act t", "ACT t", "can?", "why", "exit", "quit", "-", ";",
                           "state", "world", "answer can", "module m", "events", "early", "t", "0", "can can")

    def test_the_form_comes_before_the_errors_of_the_operation(self):
        console = Console(world_of(t=[]))
        self.check_invalid(console, "thread T ; jump", "thread t ; fail ;", "undo 99 1", "act u u", "run x")


class Limits(ConsoleCase):
    def test_the_property(self):
        console = Console(world_of(t=[]))
        self.assertTrue(is_same(console.limit, 5000))
        for value in (0, 1, 7, 10 ** 29):
            console.limit = value
            self.assertTrue(is_same(console.limit, value))
        console.limit = Many.SEVERAL
        self.assertEqual([repr(console.limit), tried(console.answer, "run")], ["3", ("returned", "1")])

    def test_other_values(self):
        console = Console(world_of(t=[]))
        console.limit = 9
        for value in NO_NUMBERS_NO_STRINGS + [-1, -(10 ** 20), "", "1", (), (1,)]:
            with self.assertRaises(ValueError) as caught:
                console.limit = value
            self.assertEqual(type(caught.exception).__name__, "InvalidNumber")
            self.assertEqual(console.limit, 9)

    def test_undo_does_not_change_it(self):
        console = Console(world_of(t=[]))
        console.answer("limit 3")
        console.answer("undo 1")
        self.assertEqual(console.limit, 3)


class Lists(ConsoleCase):
    COMMANDS = ["limit 50", "thread t ; need n", "act t", "run 1", "unload", "undo 1", "exports m", "history"]

    def test_all(self):
        one, other = Console(world_of()), Console(world_of())
        commands = list(self.COMMANDS)
        found = one.answer_all(commands)
        self.assertEqual(found, [other.answer(command) for command in self.COMMANDS])
        self.assertEqual(commands, self.COMMANDS)
        self.assertEqual(self.state(one), self.state(other))
        self.assertEqual(one.limit, 50)

    def test_none(self):
        console = Console(world_of(t=[]))
        before = self.state(console)
        self.assertEqual(console.answer_all([]), [])
        self.assertIsNot(console.answer_all([]), console.answer_all([]))
        self.assertEqual(self.state(console), before)

    def check_failed(self, console, commands, position, answers, cause):
        before, world = self.state(console), console.world()
        with self.assertRaises(CommandFailed) as caught:
            console.answer_all(commands)
        error = caught.exception
        self.assertTrue(is_same(error.position, position))
        self.assertEqual(error.answers, answers)
        self.assertIs(type(error.answers), list)
        self.assertEqual((type(error.__cause__).__name__, *vars(error.__cause__).values()), cause)
        self.assertEqual(self.state(console), before)
        self.assertIs(console.world() == world, True)

    def test_an_error_at_each_place(self):
        console = Console(world_of(u=[("need", "m")]))
        console.limit = 77
        answers = Console(world_of(u=[("need", "m")])).answer_all(self.COMMANDS)
        for position in range(len(self.COMMANDS) + 1):
            for wrong, cause in (("act z", ("UnknownThread", "z")), ("jump", ("InvalidCommand",)), (None, ("InvalidCommand",))):
                commands = self.COMMANDS[:position] + [wrong] + self.COMMANDS[position:]
                self.check_failed(console, commands, position, answers[:position], cause)

    def test_each_error(self):
        rows = [
            ("thread T", ("InvalidName", "T")), ("thread u", ("NameTaken", "u")), ("thread t ; need k", ("InvalidProgram", 0)),
            ("act u", ("MustWait", None, "m")), ("act k", ("UnknownThread", "k")), ("act v", ("HasEnded", "v")),
            ("retry k", ("UnknownModule", "k")), ("retry m", ("WrongState", "m", "running")), ("retry f", ("StillNeeded", "f")),
            ("undo 99", ("InvalidUndo",)), ("why s", ("NotWaiting", "s")), ("run", ("TooMany", 1)), ("run a", ("InvalidCommand",)),
        ]
        world = world_of(s=[("need", "m")], u=[("need", "m")], v=[], w=[("need", "f")])
        for thread in "suvwww":
            world.act(thread)
        console = Console(world)
        for command, cause in rows:
            self.check_failed(console, ["limit 1", "act s", command], 2, ["ok", "step m set a 5"], cause)
        for name in "abcd":
            console.answer(f"thread {name}")
        self.check_failed(console, ["limit 1", "thread e"], 1, ["ok"], ("TooMany", 8))

    def test_actions_of_a_run_are_taken_back(self):
        console = Console(world_of(t=[("set", "a", 1)] * 9))
        self.check_failed(console, ["limit 3", "run"], 1, ["ok"], ("TooMany", 3))
        self.assertEqual([console.limit, len(console.world())], [5000, 1])

    def test_an_undo_is_taken_back(self):
        console = Console(world_of(t=[("set", "a", 1)] * 3))
        console.answer("run")
        self.check_failed(console, ["undo 3", "undo 9"], 1, ["2"], ("InvalidUndo",))

    def test_later_commands_after_an_error(self):
        console = Console(world_of(t=[("need", "m")]))
        self.check_failed(console, ["act t", "act t", "jump"], 2, ["request - m started", "step m set a 5"], ("InvalidCommand",))
        self.check_answers(console, ("act t", "request - m started"))
        self.assertEqual(console.answer_all(["act t", "can"]), ["step m set a 5", "t"])

    def test_values_that_are_not_lists(self):
        console = Console(world_of(t=[]))
        before = self.state(console)
        for value in NO_NUMBERS_NO_STRINGS + [0, 1, "can", ("can",), (), {"can": 1}, {"can"}, iter(["can"])]:
            if not isinstance(value, list):
                with self.assertRaises(InvalidCommand):
                    console.answer_all(value)
        self.assertEqual(self.state(console), before)

    def test_answers_of_the_error_are_a_list_of_their_own(self):
        console = Console(world_of(t=[]))
        with self.assertRaises(CommandFailed) as caught:
            console.answer_all(["can", "jump"])
        caught.exception.answers.append("z")
        self.assertEqual(console.answer_all(["can"]), ["t"])


class RandomCommands(ConsoleCase):
    def drawn(self, draw):
        word = draw.choice(["act"] * 12 + ["run", "undo", "unload", "retry", "state", "exports", "stack", "status", "why", "can",
                                           "needs", "variables", "threads", "history", "limit"])
        if word in ("unload", "can", "needs", "threads", "history"):
            return word
        if word == "run":
            return "run " + " ".join(str(draw.randrange(5)) for count in range(3))
        if word in ("undo", "limit"):
            return f"{word} {draw.randrange(6)}"
        names = "pqrst" if word in ("retry", "state", "exports") else "uvw"
        return f"{word} {draw.choice(names)}"

    def test_beside_a_world(self):
        """What the console answers is what the world says."""
        draw = random.Random(29)
        for count in range(40):
            programs = drawn_library(draw, 5, 5)
            mains = {name: drawn_program(draw, sorted(programs), 5, is_main=True) for name in "uvw"}
            world = made(programs, **mains)
            console = Console(world)
            for step in range(40):
                command = self.drawn(draw)
                word, *others = command.split(" ")
                expected = self.expected(world, console, word, others)
                self.assertEqual(tried(console.answer, command), expected)
                self.assertIs(console.world() == world, True)
                self.assertEqual(console.world().history(), world.history())
            self.assertIs(replay(world.library(), dump_history(world)) == console.world(), True)

    def expected(self, world, console, word, others):
        functions = {
            "act": lambda name: self.event(world.act(name)),
            "run": lambda *choices: str(run(world, choices=[int(choice) for choice in choices], limit=console.limit)),
            "undo": lambda many: str(world.undo(count=int(many))),
            "unload": lambda: " ".join(["ok", *world.unload()]),
            "retry": lambda module: world.retry(module) or "ok",
            "limit": lambda many: "ok",
            "state": lambda module: world.state_of(module),
            "exports": lambda module: " ".join(f"{name}={value}" for name, value in world.exports(module).items()) or "-",
            "stack": lambda name: " ".join(world.stack(name)) or "-",
            "status": lambda name: " ".join([world.status(name)] + [module for module in [world.waits_for(name)] if module]),
            "why": lambda name: " ".join(waiting_path(world, name)),
            "can": lambda: " ".join(world.can_run()) or "-",
            "needs": lambda: str(world.needs()) or "-",
            "variables": lambda name: " ".join(str(value) for value in world.variables(name).values()),
            "threads": lambda: " ".join(world.threads()) or "-",
            "history": lambda: dump_history(world) or "-",
        }
        return tried(functions[word], *others)

    def event(self, event):
        kind = event[0]
        module = [] if kind == "end" else [event[2] or "-"]
        others = {
            "step": lambda: [" ".join(str(item) for item in event[3])],
            "request": lambda: [event[3], "started" if event[4] else "present"],
            "continue": lambda: [event[3], event[4]],
            "finish": lambda: list(event[3]),
            "fail": lambda: list(event[3]),
        }.get(kind, lambda: [])
        return " ".join([kind, *module, *others()])


if __name__ == "__main__":
    unittest.main()
