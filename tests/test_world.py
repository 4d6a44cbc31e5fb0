"""Worlds: threads, actions, operations, history, undo and running by choices [2, 19 to 22]."""

import copy
import inspect
import itertools
import random
import unittest

from cycleready.frames import Frame
from cycleready.library import Library
from cycleready.needs import Needs
from cycleready.world import MOST_THREADS, World, run
from drawn import drawn_library, drawn_program
from registry_model import Refused
from values import NO_NAMES, NO_NUMBERS_NO_STRINGS, NO_STEPS, Number, Word, are_same, is_same, tried
from world_model import WorldModel, shown
from worlds import acted, made

PLAIN = {"m": [("set", "a", 5), ("export", "x", "a")], "n": [("need", "m"), ("read", "b", "m", "x"), ("export", "y", "b")]}
CYCLE = {"p": [("need", "q"), ("export", "x", "a")], "q": [("need", "p")]}
FAILING = {"f": [("fail",)], "g": [("need", "f")]}
NO_COUNTS = NO_NUMBERS_NO_STRINGS + [-1, -(10 ** 20), "", "1", (), (1,)]


def whole(world):
    return [*shown(world), world.history(), len(world)]


class WorldCase(unittest.TestCase):
    def check_error(self, world, expected, function, *arguments, **named):
        """The call raises this error, and the world is as before."""
        before, copied = whole(world), world.clone()
        found = tried(function, *arguments, **named)
        self.assertEqual(found[0], expected[0])
        self.assertTrue(are_same(found, expected))
        self.assertEqual(whole(world), before)
        self.assertIs(world == copied, True)


class Threads(WorldCase):
    def test_a_new_world(self):
        world = World(Library(PLAIN))
        self.assertEqual([world.threads(), world.can_run(), world.events(), world.history(), len(world)],
                         [[], [], [], [], 0])
        self.assertEqual(world.outcome(), ((), ()))
        self.assertEqual([world.state_of("m"), world.exports("m"), world.early()], ["new", {}, []])
        self.assertEqual([world.needs(), world.recorded()], [Needs(), Needs()])
        self.assertEqual(world.library(), Library(PLAIN))

    def test_a_new_thread(self):
        world = World(Library(PLAIN))
        self.assertIsNone(world.add_thread("t", [("need", "n")]))
        self.assertIsNone(world.add_thread(name="s", program=[]))
        self.assertEqual([world.threads(), world.can_run()], [["s", "t"], ["s", "t"]])
        self.assertEqual([world.status("t"), world.stack("t"), world.waits_for("t")], ["running", [], None])
        self.assertEqual([world.next_step("t"), world.next_step("s")], [("need", "n"), None])
        self.assertEqual(world.variables("t"), {"a": 0, "b": 0, "c": 0, "d": 0})
        self.assertEqual(world.outcome(), ((), (("s", "running", (0,) * 4), ("t", "running", (0,) * 4))))
        self.assertEqual(world.history(), [("thread", "t", (("need", "n"),)), ("thread", "s", ())])

    def test_eight_and_nine_threads(self):
        self.assertEqual(MOST_THREADS, 8)
        world = made(PLAIN, **{name: [] for name in "abcdefgh"})
        self.check_error(world, ("TooMany", 8), world.add_thread, "i", [])
        self.assertEqual(len(world.threads()), 8)
        run(world)
        self.check_error(world, ("TooMany", 8), world.add_thread, "i", [])

    def test_the_order_of_errors(self):
        full = made(PLAIN, **{name: [] for name in "abcdefgh"})
        for name in NO_NAMES:
            self.check_error(full, ("InvalidName", name), full.add_thread, name, None)
            self.check_error(full, ("InvalidName", name), full.add_thread, name, [])
        self.check_error(full, ("NameTaken", "a"), full.add_thread, "a", None)
        self.check_error(full, ("NameTaken", "a"), full.add_thread, "a", [])
        self.check_error(full, ("InvalidProgram", -1), full.add_thread, "i", None)
        self.check_error(full, ("InvalidProgram", 0), full.add_thread, "i", [("need", "k")])
        self.check_error(full, ("TooMany", 8), full.add_thread, "i", [("need", "m")])

    def test_names_taken(self):
        world = made(PLAIN, t=[])
        self.check_error(world, ("NameTaken", "t"), world.add_thread, "t", [])
        world.act("t")
        self.check_error(world, ("NameTaken", "t"), world.add_thread, "t", [("fail",)])
        # A thread may have the name of a module.
        world.add_thread("m", [("need", "m")])
        self.assertEqual(world.threads(), ["m", "t"])

    def test_programs_that_are_not_valid(self):
        world = World(Library(PLAIN))
        for value in NO_NUMBERS_NO_STRINGS + [0, "", "fail", (), (("fail",),), [("fail",)] * 31]:
            if not isinstance(value, list) or len(value) > 30:
                self.check_error(world, ("InvalidProgram", -1), world.add_thread, "t", value)
        for value in NO_STEPS + [("set", "a", True), ("skip", "a", 1), ("export", "x", "a"), ("need", "k"),
                                 ("try", "k", "a"), ("read", "a", "k", "m"), ["fail"]]:
            self.check_error(world, ("InvalidProgram", 0), world.add_thread, "t", [value])
            self.check_error(world, ("InvalidProgram", 1), world.add_thread, "t", [("need", "m"), value])
        self.check_error(world, ("InvalidProgram", 0), world.add_thread, "t", [("skip", "a", 2), ("export", "x", "a")])

    def test_programs_are_copied(self):
        world = World(Library(PLAIN))
        program = [("need", "m")]
        world.add_thread("t", program)
        self.assertEqual(program, [("need", "m")])
        program[0] = ("fail",)
        program.append(("fail",))
        self.assertEqual(world.next_step("t"), ("need", "m"))
        self.assertEqual(world.history(), [("thread", "t", (("need", "m"),))])

    def test_values_that_show_themselves_in_another_way(self):
        world = World(Library(PLAIN))
        world.add_thread(Word.OTHER, [("set", "a", Number.FEW), (Word.NEED, Word.MODULE)])
        self.assertEqual(repr(world.act(Word.OTHER)), "('step', 'n', None, ('set', 'a', -3))")
        self.assertEqual(repr(world.history()), "[('thread', 'n', (('set', 'a', -3), ('need', 'm'))), ('act', 'n')]")
        self.assertEqual(repr(world.threads()), "['n']")
        self.assertEqual(repr(tried(world.add_thread, Word.OTHER, [])), "('NameTaken', 'n')")
        self.assertEqual(repr(tried(world.frame_of, Word.MODULE)), "('WrongState', 'm', 'new')")
        world = made({"m": [("fail",)]}, t=[("try", "m", "a")])
        acted(world, "ttt")
        self.assertEqual(repr(tried(world.retry, Word.MODULE)), "('StillNeeded', 'm')")
        acted(world, "t")
        world.retry(Word.MODULE)
        self.assertEqual(repr(world.history()[-1]), "('retry', 'm')")

    def test_unknown_threads(self):
        world = made(PLAIN, t=[])
        functions = [world.act, world.stack, world.status, world.variables, world.next_step, world.waits_for]
        for function, value in itertools.product(functions, NO_NAMES + ["s", "m", "tt"]):
            self.check_error(world, ("UnknownThread", value), function, value)
        self.check_error(world, ("UnknownThread", None), world.status, thread=None)

    def test_unknown_modules(self):
        world = made(PLAIN, t=[])
        functions = [world.state_of, world.exports, world.chain, world.frame_of, world.retry]
        for function, value in itertools.product(functions, NO_NAMES + ["t", "k", "mm"]):
            self.check_error(world, ("UnknownModule", value), function, value)
        self.check_error(world, ("UnknownModule", None), world.exports, module=None)

    def test_parameters(self):
        expected = {
            "add_thread": ["name", "program"], "threads": [], "library": [], "act": ["thread"], "stack": ["thread"],
            "status": ["thread"], "variables": ["thread"], "next_step": ["thread"], "waits_for": ["thread"],
            "can_run": [], "state_of": ["module"], "exports": ["module"], "chain": ["module"], "needs": [],
            "recorded": [], "early": [], "frame_of": ["module"], "outcome": [], "events": [], "retry": ["module"],
            "unload": [], "history": [], "undo": ["count"], "clone": [],
        }
        for method, names in expected.items():
            self.assertEqual(list(inspect.signature(getattr(World, method)).parameters), ["self"] + names, msg=method)
        count = inspect.signature(World.undo).parameters["count"]
        self.assertEqual([count.kind, count.default], [inspect.Parameter.KEYWORD_ONLY, 1])
        parameters = inspect.signature(run).parameters
        self.assertEqual(list(parameters), ["world", "choices", "limit"])
        self.assertEqual([parameters[name].kind for name in ("choices", "limit")], [inspect.Parameter.KEYWORD_ONLY] * 2)
        self.assertEqual([parameters[name].default for name in ("choices", "limit")], [(), 5000])
        self.assertEqual(list(inspect.signature(World).parameters), ["library"])
        self.assertEqual(World(library=Library(PLAIN)), World(Library(PLAIN)))


class Actions(WorldCase):
    def test_end(self):
        world = made(PLAIN, t=[("set", "c", 4)])
        self.assertEqual(acted(world, "tt"), [("step", "t", None, ("set", "c", 4)), ("end", "t")])
        self.assertEqual([world.status("t"), world.next_step("t"), world.can_run()], ["ended", None, []])
        self.assertEqual(world.variables("t"), {"a": 0, "b": 0, "c": 4, "d": 0})
        self.check_error(world, ("HasEnded", "t"), world.act, "t")
        self.check_error(world, ("HasEnded", "t"), world.act, thread="t")

    def test_fail_of_a_main_program(self):
        world = made(PLAIN, t=[("set", "c", 4), ("fail",), ("set", "c", 5)])
        self.assertEqual(acted(world, "tt")[1], ("fail", "t", None, ()))
        self.assertEqual([world.status("t"), world.next_step("t"), world.can_run()], ["failed", None, []])
        self.assertEqual(world.outcome()[1], (("t", "failed", (0, 0, 4, 0)),))
        self.check_error(world, ("HasEnded", "t"), world.act, "t")

    def test_plain_steps(self):
        steps = [("set", "a", 1), ("skip", "a", 1), ("fail",), ("add", "b", "a")]
        world = made({"m": steps}, t=[("need", "m"), *steps])
        events = [world.act("t") for count in range(9)]
        self.assertEqual(events[1:4], [("step", "t", "m", steps[0]), ("step", "t", "m", steps[1]), ("step", "t", "m", steps[3])])
        self.assertEqual(events[6:], [("step", "t", None, steps[0]), ("step", "t", None, steps[1]), ("step", "t", None, steps[3])])
        self.assertEqual(world.variables("t"), {"a": 1, "b": 1, "c": 0, "d": 0})

    def test_request_starts_a_new_module(self):
        world = made(PLAIN, t=[("need", "n")])
        self.assertEqual(world.act("t"), ("request", "t", None, "n", True))
        self.assertEqual([world.stack("t"), world.state_of("n"), world.next_step("t")], [["n"], "running", ("need", "m")])
        self.assertEqual(world.act("t"), ("request", "t", "n", "m", True))
        self.assertEqual([world.stack("t"), world.needs().pairs()], [["n", "m"], [("n", "m")]])

    def test_request_of_a_module_that_is_present(self):
        world = made(PLAIN, s=[("try", "m", "a")], t=[("need", "m")])
        self.assertEqual(acted(world, "st"), [("request", "s", None, "m", True), ("request", "t", None, "m", False)])
        self.assertIs(world.events()[1][4], False)
        self.assertEqual([world.stack("s"), world.stack("t"), world.waits_for("t")], [["m"], [], "m"])
        self.check_error(world, ("MustWait", None, "m"), world.act, "t")
        self.assertEqual([world.next_step("t"), world.can_run(), world.status("t")], [("need", "m"), ["s"], "running"])

    def test_finish_and_continue(self):
        world = made(PLAIN, s=[("try", "m", "a"), ("read", "b", "m", "x")], t=[("need", "m"), ("read", "b", "m", "x")])
        events = acted(world, "stsss")
        self.assertEqual(events[2:], [("step", "s", "m", ("set", "a", 5)), ("step", "s", "m", ("export", "x", "a")),
                                      ("finish", "s", "m", ("m",))])
        self.assertEqual([world.stack("s"), world.waits_for("t"), world.can_run()], [[], None, ["s", "t"]])
        events = acted(world, "ttss")
        self.assertEqual(events, [("continue", "t", None, "m", "ready"), ("step", "t", None, ("read", "b", "m", "x")),
                                  ("continue", "s", None, "m", "ready"), ("step", "s", None, ("read", "b", "m", "x"))])
        self.assertEqual([world.variables("s"), world.variables("t")],
                         [{"a": 1, "b": 5, "c": 0, "d": 0}, {"a": 0, "b": 5, "c": 0, "d": 0}])

    def test_remove(self):
        world = made(FAILING, t=[("try", "g", "a")])
        events = acted(world, "ttttttt")
        self.assertEqual(events[1:], [
            ("request", "t", "g", "f", True), ("fail", "t", "f", ("f",)), ("remove", "t", "f"), ("fail", "t", "g", ("g",)),
            ("remove", "t", "g"), ("continue", "t", None, "g", "failed"),
        ])
        self.assertEqual([world.chain("g"), world.variables("t")["a"], world.status("t")], [["g", "f"], 0, "running"])

    def test_the_frame_of_a_failed_program_stays(self):
        world = made({"f": [("set", "a", 2), ("fail",), ("set", "a", 3)]}, t=[("need", "f")])
        acted(world, "ttt")
        self.assertEqual([world.next_step("t"), world.frame_of("f").variables()["a"]], [("fail",), 2])
        self.assertEqual([world.stack("t"), world.state_of("f"), world.can_run()], [["f"], "failed", ["t"]])
        self.assertEqual(acted(world, "tt"), [("remove", "t", "f"), ("fail", "t", None, ())])
        self.assertEqual([world.status("t"), world.stack("t"), world.next_step("t")], ["failed", [], None])

    def test_try_gives_one_or_zero(self):
        world = made({**FAILING, "m": []}, t=[("set", "a", 9), ("try", "f", "a"), ("try", "m", "b"), ("try", "m", "c")])
        run(world)
        self.assertEqual(world.variables("t"), {"a": 0, "b": 1, "c": 1, "d": 0})

    def test_need_does_not_touch_the_variables(self):
        world = made(PLAIN, t=[("set", "a", 9), ("need", "m")])
        run(world)
        self.assertEqual(world.variables("t")["a"], 9)

    def test_continue_of_a_need_of_itself(self):
        world = made({"m": [("try", "m", "b"), ("read", "c", "m", "x"), ("need", "m"), ("export", "x", "b")]},
                     t=[("need", "m")])
        events = acted(world, "tttttttt")
        self.assertEqual(events[1:3], [("request", "t", "m", "m", False), ("continue", "t", "m", "m", "early")])
        self.assertEqual([events[5], events[7]], [("continue", "t", "m", "m", "early"), ("finish", "t", "m", ("m",))])
        self.assertEqual([world.exports("m"), world.recorded().pairs()], [{"x": 1}, [("m", "m")]])

    def test_a_skipped_need_is_not_requested(self):
        world = made(PLAIN, t=[("set", "a", 1), ("skip", "a", 1), ("need", "m")])
        acted(world, "ttt")
        self.assertEqual([world.status("t"), world.state_of("m")], ["ended", "new"])

    def test_failed_comes_before_the_end(self):
        # q is at its end when p, which it accessed early, fails.
        world = made({"p": [("need", "q"), ("fail",)], "q": [("try", "p", "a")]}, s=[("need", "p")], t=[("need", "q")])
        events = acted(world, "sts" + "tt" + "ss")
        self.assertEqual(events[4:], [("continue", "t", "q", "p", "early"), ("continue", "s", "p", "q", "early"),
                                      ("fail", "s", "p", ("p", "q"))])
        self.assertEqual([world.next_step("t"), world.frame_of("q").is_over()], [None, True])
        self.assertEqual(acted(world, "tt"), [("remove", "t", "q"), ("fail", "t", None, ())])

    def test_failed_comes_before_the_next_step(self):
        for step in (("set", "b", 1), ("export", "x", "a"), ("fail",), ("need", "m"), ("read", "a", "p", "x")):
            programs = {"p": [("need", "q"), ("fail",)], "q": [("try", "p", "a"), step], "m": []}
            world = made(programs, s=[("need", "p")], t=[("need", "q")])
            acted(world, "sts" + "tt" + "ss")
            self.assertEqual([world.next_step("t"), world.act("t")], [step, ("remove", "t", "q")])
            self.assertEqual(world.state_of("m"), "new")


class Reads(WorldCase):
    def final(self, programs, *steps):
        world = made(programs, t=list(steps))
        run(world)
        return tuple(world.variables("t").values())

    def test_accessed(self):
        self.assertEqual(self.final(PLAIN, ("need", "m"), ("read", "c", "m", "x")), (0, 0, 5, 0))
        self.assertEqual(self.final(PLAIN, ("try", "m", "a"), ("read", "c", "m", "x")), (1, 0, 5, 0))

    def test_not_accessed(self):
        self.assertEqual(self.final(PLAIN, ("read", "c", "m", "x")), (0, 0, -1, 0))
        self.assertEqual(self.final(PLAIN, ("need", "n"), ("read", "c", "m", "x"), ("read", "d", "n", "y")), (0, 0, -1, 5))

    def test_nothing_under_this_name(self):
        self.assertEqual(self.final(PLAIN, ("need", "m"), ("read", "c", "m", "y")), (0, 0, -1, 0))

    def test_a_failed_module(self):
        programs = {"f": [("set", "a", 1), ("export", "x", "a"), ("fail",)]}
        self.assertEqual(self.final(programs, ("try", "f", "a"), ("read", "c", "f", "x")), (0, 0, -1, 0))

    def test_a_module_that_was_failed_at_its_try_and_is_ready_later(self):
        # f fails if it reads from k before k exports.
        programs = {"k": [("try", "l", "b"), ("set", "a", 1), ("export", "x", "a")], "l": [("need", "k"), ("try", "f", "c")],
                    "f": [("need", "k"), ("read", "a", "k", "x"), ("skip", "a", 1), ("fail",), ("export", "y", "a")]}
        world = made(programs, t=[("need", "k"), ("try", "f", "a"), ("read", "b", "f", "y")])
        while world.next_step("t") != ("read", "b", "f", "y"):
            world.act("t")
        self.assertEqual(world.state_of("f"), "failed")
        world.retry("f")
        world.add_thread("s", [("need", "f"), ("read", "b", "f", "y")])
        run(world)
        self.assertEqual([world.exports("f"), world.variables("s")["b"], world.variables("t")["b"]], [{"y": 1}, 1, -1])

    def test_its_own_module(self):
        programs = {"m": [("read", "b", "m", "x"), ("set", "a", 3), ("export", "x", "a"), ("read", "c", "m", "x"),
                          ("export", "y", "b"), ("export", "z", "c")]}
        world = made(programs, t=[("need", "m")])
        run(world)
        self.assertEqual(world.exports("m"), {"x": 3, "y": -1, "z": 3})

    def test_a_value_that_is_exported_later_is_seen_early(self):
        programs = {"p": [("set", "a", 1), ("export", "x", "a"), ("need", "q"), ("set", "a", 2), ("export", "x", "a"),
                          ("export", "y", "a")],
                    "q": [("need", "p"), ("read", "a", "p", "x"), ("read", "b", "p", "y"), ("export", "u", "a"),
                          ("export", "v", "b")]}
        world = made(programs, t=[("need", "p")])
        run(world)
        self.assertEqual([world.exports("p"), world.exports("q")], [{"x": 2, "y": 2}, {"u": 1, "v": -1}])

    def test_accessed_by_the_program_below(self):
        # n accessed m; o, which n needs, did not.
        programs = {**PLAIN, "n": [("need", "m"), ("need", "o")], "o": [("read", "a", "m", "x"), ("export", "z", "a")]}
        world = made(programs, t=[("need", "n")])
        run(world)
        self.assertEqual(world.exports("o"), {"z": -1})


class Waiting(WorldCase):
    def test_two_threads_over_one_cycle(self):
        world = made(CYCLE, s=[("need", "p")], t=[("need", "q")])
        acted(world, "sts")
        self.assertEqual([world.waits_for("s"), world.waits_for("t"), world.can_run()], ["q", None, ["t"]])
        self.check_error(world, ("MustWait", "p", "q"), world.act, "s")
        self.assertEqual(world.act("t"), ("request", "t", "q", "p", False))
        # Now each depends on the other: both may go on.
        self.assertEqual(world.can_run(), ["s", "t"])
        self.assertEqual(acted(world, "tt"), [("continue", "t", "q", "p", "early"), ("finish", "t", "q", ())])
        self.assertEqual([world.state_of("q"), world.waits_for("t"), world.stack("t")], ["done", "q", []])
        self.check_error(world, ("MustWait", None, "q"), world.act, "t")
        self.assertEqual(acted(world, "sss"), [("continue", "s", "p", "q", "early"), ("step", "s", "p", ("export", "x", "a")),
                                               ("finish", "s", "p", ("p", "q"))])
        self.assertEqual([world.can_run(), world.early()], [["s", "t"], []])

    def test_three_threads_over_one_cycle(self):
        programs = {"p": [("need", "q")], "q": [("need", "r")], "r": [("need", "p")]}
        world = made(programs, s=[("need", "p")], t=[("need", "q")], u=[("need", "r")])
        acted(world, "stu" + "st")
        self.assertEqual([world.waits_for(name) for name in "stu"], ["q", "r", None])
        world.act("u")
        self.assertEqual(world.can_run(), ["s", "t", "u"])
        run(world)
        self.assertEqual([world.status(name) for name in "stu"], ["ended"] * 3)
        self.assertEqual([event for event in world.events() if event[0] == "finish"][-1][3], ("p", "q", "r"))

    def test_a_done_module_outside_of_the_cycle_is_waited_for(self):
        # n is done and depends on m, which runs; o needs n and is in no cycle with it.
        programs = {"m": [("need", "n"), ("set", "a", 1)], "n": [("need", "m")], "o": [("need", "n")]}
        world = made(programs, s=[("need", "m")], t=[("need", "o")])
        acted(world, "sssss" + "tt")
        self.assertEqual([world.state_of("n"), world.waits_for("t")], ["done", "n"])
        self.check_error(world, ("MustWait", "o", "n"), world.act, "t")
        acted(world, "sss")
        self.assertEqual([world.state_of("n"), world.waits_for("t")], ["ready", None])
        self.assertEqual(world.act("t"), ("continue", "t", "o", "n", "ready"))

    def test_a_thread_with_a_failed_module_does_not_wait(self):
        # q accessed p early and waits for r, which another thread runs; then p fails.
        programs = {"p": [("need", "q"), ("fail",)], "q": [("need", "p"), ("need", "r")], "r": [("set", "a", 1)]}
        world = made(programs, s=[("need", "p")], t=[("need", "q")], u=[("need", "r")])
        acted(world, "st" + "s" + "tt" + "u" + "t")
        self.assertEqual([world.waits_for("t"), world.next_step("t")], ["r", ("need", "r")])
        acted(world, "s")
        self.assertEqual(world.act("s"), ("fail", "s", "p", ("p", "q")))
        self.assertEqual([world.waits_for("t"), world.next_step("t"), world.can_run()], [None, ("need", "r"), ["s", "t", "u"]])
        self.assertEqual(world.act("t"), ("remove", "t", "q"))
        self.assertEqual([world.chain("q"), world.needs().pairs()], [["q", "p"], [("p", "q")]])


class FailuresReachOthers(WorldCase):
    def test_another_thread_is_told(self):
        world = made(FAILING, s=[("need", "f")], t=[("try", "f", "b")], u=[("need", "g")])
        acted(world, "stuu")
        self.assertEqual(world.can_run(), ["s"])
        self.assertEqual(world.act("s"), ("fail", "s", "f", ("f",)))
        self.assertEqual(world.can_run(), ["s", "t", "u"])
        self.assertEqual(acted(world, "tu"), [("continue", "t", None, "f", "failed"), ("fail", "u", "g", ("g",))])
        self.assertEqual([world.chain("g"), world.needs().pairs(), world.recorded().pairs()], [["g", "f"], [], [("g", "f")]])

    def test_a_done_module_fails(self):
        programs = {"p": [("need", "q"), ("fail",)], "q": [("need", "p")]}
        world = made(programs, s=[("need", "p")], t=[("try", "q", "a")])
        acted(world, "s" + "s" + "sss" + "t")
        self.assertEqual([world.state_of("q"), world.waits_for("t")], ["done", "q"])
        acted(world, "s")
        self.assertEqual(world.act("s"), ("fail", "s", "p", ("p", "q")))
        self.assertEqual(world.act("t"), ("continue", "t", None, "q", "failed"))

    def test_modules_above_a_failed_one(self):
        # q started r, which runs on when q fails; then q is removed.
        programs = {"p": [("need", "q"), ("fail",)], "q": [("need", "p"), ("need", "r")], "r": [("set", "a", 1)]}
        world = made(programs, s=[("need", "p")], t=[("need", "q")])
        acted(world, "st" + "s" + "ttt" + "ss")
        self.assertEqual([world.stack("t"), world.state_of("q"), world.state_of("r")], [["q", "r"], "failed", "running"])
        self.assertEqual([world.next_step("t"), world.frame_of("q").next_step()], [("set", "a", 1), ("need", "r")])
        self.assertEqual(acted(world, "ttt"), [("step", "t", "r", ("set", "a", 1)), ("finish", "t", "r", ("r",)),
                                               ("remove", "t", "q")])
        self.assertEqual(world.act("t"), ("fail", "t", None, ()))


class Frames(WorldCase):
    def test_frame_of(self):
        world = made(PLAIN, t=[("need", "n")])
        acted(world, "ttt")
        self.assertEqual(world.frame_of("n"), Frame(PLAIN["n"]))
        frame = world.frame_of(module="m")
        self.assertEqual([frame.next_index(), len(frame), frame.variables()["a"]], [1, 1, 5])

    def test_it_is_a_copy(self):
        world = made(PLAIN, t=[("need", "m")])
        acted(world, "tt")
        frame = world.frame_of("m")
        frame.pass_step()
        self.assertIs(frame.is_over(), True)
        self.assertEqual(world.frame_of("m").next_index(), 1)
        self.assertEqual(world.next_step("t"), ("export", "x", "a"))

    def test_on_no_stack(self):
        world = made({**PLAIN, "f": [("fail",)], "p": [("need", "p")]}, t=[("try", "f", "a"), ("need", "m")])
        self.check_error(world, ("WrongState", "n", "new"), world.frame_of, "n")
        acted(world, "tt")
        self.assertEqual(world.frame_of("f").next_step(), ("fail",))
        run(world)
        self.check_error(world, ("WrongState", "f", "failed"), world.frame_of, "f")
        self.check_error(world, ("WrongState", "m", "ready"), world.frame_of, "m")
        world = made(CYCLE, s=[("need", "p")], t=[("need", "q")])
        acted(world, "ststtt")
        self.check_error(world, ("WrongState", "q", "done"), world.frame_of, "q")


class Retrying(WorldCase):
    def test_after_the_end(self):
        world = made(FAILING, t=[("try", "f", "a")])
        run(world)
        self.assertIsNone(world.retry("f"))
        self.assertEqual([world.state_of("f"), world.history()[-1]], ["new", ("retry", "f")])
        world.add_thread("s", [("need", "f")])
        self.assertEqual(world.act("s"), ("request", "s", None, "f", True))

    def test_other_states(self):
        world = made({**PLAIN, **FAILING, **CYCLE}, s=[("need", "m")], t=[("need", "p")])
        for module in "fm":
            self.check_error(world, ("WrongState", module, "new"), world.retry, module)
        acted(world, "s")
        self.check_error(world, ("WrongState", "m", "running"), world.retry, "m")
        run(world)
        self.check_error(world, ("WrongState", "m", "ready"), world.retry, "m")

    def test_held(self):
        world = made(FAILING, t=[("need", "f")])
        acted(world, "tt")
        self.check_error(world, ("WrongState", "f", "failed"), world.retry, "f")

    def test_needed_by_a_module(self):
        world = made(FAILING, t=[("need", "g")])
        acted(world, "tttt")
        self.check_error(world, ("StillNeeded", "f"), world.retry, "f")
        acted(world, "t")
        world.retry("f")
        self.assertEqual(world.state_of("f"), "new")

    def test_needed_by_a_main_program(self):
        for step in (("need", "f"), ("try", "f", "a")):
            world = made(FAILING, t=[step, ("set", "a", 1)])
            acted(world, "ttt")
            self.check_error(world, ("StillNeeded", "f"), world.retry, "f")
            acted(world, "t")
            world.retry("f")

    def test_a_next_step_that_was_not_requested_is_no_need(self):
        world = made(FAILING, s=[("need", "f")], t=[("need", "f")])
        acted(world, "ssss")
        self.assertEqual([world.next_step("t"), world.status("s")], [("need", "f"), "failed"])
        world.retry("f")
        self.assertEqual(world.act("t"), ("request", "t", None, "f", True))

    def test_a_main_program_that_requested_it_below_others(self):
        # t's main program requested g; its top program is that of g, which waits for f no more.
        world = made({"f": [("fail",)], "g": [("try", "f", "a"), ("set", "a", 1), ("fail",)]}, t=[("need", "g")],
                     s=[("need", "g")])
        acted(world, "tttttt")
        world.retry("f")
        acted(world, "tt" + "s")
        self.check_error(world, ("StillNeeded", "g"), world.retry, "g")
        acted(world, "t")
        self.assertEqual(world.status("t"), "failed")
        self.check_error(world, ("StillNeeded", "g"), world.retry, "g")
        acted(world, "s")
        world.retry("g")

    def test_wrong_state_comes_before_still_needed(self):
        world = made(FAILING, t=[("need", "f")])
        acted(world, "t")
        self.check_error(world, ("WrongState", "f", "running"), world.retry, "f")


class Unloading(WorldCase):
    def test_after_the_end(self):
        world = made(PLAIN, t=[("need", "n")])
        run(world)
        self.assertEqual([world.unload(), world.unload()], [["m", "n"], []])
        self.assertEqual(world.history()[-2:], [("unload",), ("unload",)])
        self.assertEqual([world.outcome()[0], world.needs(), world.recorded().pairs()], [(), Needs(), [("n", "m")]])
        self.assertEqual(len(world.events()), 11)

    def test_nothing_to_unload_is_an_operation(self):
        world = World(Library(PLAIN))
        self.assertEqual([world.unload(), world.history(), world.events(), len(world)], [[], [("unload",)], [], 1])

    def test_modules_that_main_programs_have_requested(self):
        world = made(PLAIN, s=[("need", "n"), ("set", "a", 1)], t=[("need", "m"), ("set", "a", 1)])
        for count in range(12):
            world.act(world.can_run()[0])
        acted(world, "tt")
        self.assertEqual([world.status("s"), world.status("t")], ["ended", "running"])
        # m was requested by t, long ago; n only by s, which has ended.
        self.assertEqual([world.unload(), world.state_of("m")], [["n"], "ready"])
        acted(world, "tt")
        self.assertEqual(world.unload(), ["m"])

    def test_requested_by_a_failed_main_program(self):
        world = made(PLAIN, t=[("need", "m"), ("fail",)])
        acted(world, "ttttt")
        self.assertEqual(world.unload(), [])
        acted(world, "t")
        self.assertEqual([world.status("t"), world.unload()], ["failed", ["m"]])

    def test_a_need_that_is_not_requested_yet_does_not_keep(self):
        world = made(PLAIN, s=[("need", "m")], t=[("need", "m")])
        acted(world, "ssssss")
        self.assertEqual([world.status("s"), world.unload()], ["ended", ["m"]])
        self.assertEqual(world.act("t"), ("request", "t", None, "m", True))

    def test_requested_but_not_continued(self):
        world = made(PLAIN, s=[("need", "m")], t=[("need", "m")])
        acted(world, "s" + "t" + "sssss")
        self.assertEqual([world.unload(), world.waits_for("t")], [[], None])

    def test_what_kept_modules_depend_on_is_kept(self):
        world = made(PLAIN, t=[("need", "n"), ("set", "a", 1)])
        for count in range(9):
            world.act("t")
        self.assertEqual([world.state_of("m"), world.state_of("n"), world.unload()], ["ready", "ready", []])

    def test_modules_run_again_after_they_were_unloaded(self):
        world = made(PLAIN, s=[("need", "n")])
        run(world)
        world.unload()
        world.add_thread("t", [("need", "n"), ("read", "a", "n", "y")])
        self.assertEqual(run(world), 12)
        self.assertEqual(world.outcome()[1][1], ("t", "ended", (5, 0, 0, 0)))


class Histories(WorldCase):
    def rich(self):
        """A world with each kind of operation in its history."""
        world = made({**PLAIN, **FAILING}, t=[("need", "n"), ("try", "g", "a")])
        run(world)
        world.retry("f")
        world.unload()
        world.add_thread("s", [("try", "f", "a"), ("need", "n")])
        acted(world, "sss")
        return world

    def test_history(self):
        world = self.rich()
        expected = [("thread", "t", (("need", "n"), ("try", "g", "a")))] + [("act", "t")] * len(world.events()[:-3])
        expected += [("retry", "f"), ("unload",), ("thread", "s", (("try", "f", "a"), ("need", "n")))] + [("act", "s")] * 3
        self.assertEqual(world.history(), expected)
        self.assertEqual(len(world), len(expected))

    def test_errors_are_no_operations(self):
        world = self.rich()
        before = whole(world)
        for function, value in ((world.act, "t"), (world.act, "k"), (world.retry, "m"), (world.retry, 7)):
            self.assertNotEqual(tried(function, value)[0], "returned")
        self.assertNotEqual(tried(world.add_thread, "s", [])[0], "returned")
        self.assertEqual(whole(world), before)

    def test_undo_of_each_number(self):
        """Taking back so many operations leads to each of the states that there were."""
        world = World(Library({**PLAIN, **FAILING}))
        states = [(whole(world), world.clone())]
        for operation in self.rich().history():
            kind, *items = operation
            if kind == "thread":
                world.add_thread(items[0], list(items[1]))
            else:
                {"act": world.act, "retry": world.retry, "unload": world.unload}[kind](*items)
            states.append((whole(world), world.clone()))
        for count in range(len(world) + 1):
            other = world.clone()
            self.assertTrue(is_same(other.undo(count=count), len(world) - count))
            self.assertEqual(whole(other), states[len(world) - count][0])
            self.assertIs(other == states[len(world) - count][1], True)

    def test_one_by_one(self):
        world = self.rich()
        while len(world) > 0:
            before = world.history()
            self.assertEqual(world.undo(), len(before) - 1)
            self.assertEqual(world.history(), before[:-1])
        self.assertEqual(whole(world), whole(World(Library({**PLAIN, **FAILING}))))
        self.assertIs(world == World(Library({**PLAIN, **FAILING})), True)
        self.check_error(world, ("InvalidUndo",), world.undo)
        self.assertEqual(world.undo(count=0), 0)

    def test_going_on_after_undo(self):
        world = self.rich()
        expected = whole(world)
        events = world.events()[-2:]
        world.undo(count=2)
        self.assertEqual(acted(world, "ss"), events)
        self.assertEqual(whole(world), expected)

    def test_frames_after_undo(self):
        world = made(PLAIN, t=[("need", "m")])
        acted(world, "tt")
        before = [world.frame_of("m"), len(world.frame_of("m"))]
        acted(world, "t")
        world.undo()
        self.assertEqual([world.frame_of("m"), len(world.frame_of("m"))], before)

    def test_too_many_and_other_values(self):
        world = self.rich()
        for count in NO_COUNTS + [len(world) + 1, 10 ** 29]:
            self.check_error(world, ("InvalidUndo",), world.undo, count=count)
        with self.assertRaises(TypeError):
            world.undo(1)
        self.assertEqual(world.undo(count=len(world)), 0)

    def test_undo_of_a_thread(self):
        world = made(PLAIN, t=[])
        world.undo()
        self.assertEqual(world.threads(), [])
        world.add_thread("t", [("fail",)])
        self.assertEqual(world.next_step("t"), ("fail",))

    def test_undo_of_recorded_needs(self):
        world = made(PLAIN, t=[("need", "n")])
        acted(world, "tt")
        world.undo()
        self.assertEqual([world.recorded(), world.needs()], [Needs(), Needs()])


class Runs(WorldCase):
    def test_no_threads(self):
        world = World(Library(PLAIN))
        self.assertEqual([run(world), run(world, limit=0), len(world)], [0, 0, 0])

    def test_the_first_thread_when_there_are_no_choices(self):
        world = made(PLAIN, s=[("set", "a", 1)], t=[("set", "b", 2)])
        self.assertEqual(run(world), 4)
        self.assertEqual([event[1] for event in world.events()], ["s", "s", "t", "t"])

    def test_choices(self):
        mains = {name: [("set", "a", 1)] * 2 for name in "stu"}
        for choices, threads in (([1, 1, 1, 0], "tttsssuuu"), ((2, 4, 3), "utssstt" + "uu"), ([5, 5], "uusssttt" + "u"),
                                 ([10 ** 29], {0: "s", 1: "t", 2: "u"}[10 ** 29 % 3]), ([], "ssstttuuu")):
            world = made(PLAIN, **mains)
            self.assertEqual(run(world, choices=choices), 9)
            found = "".join(event[1] for event in world.events())
            self.assertEqual(found[:len(threads)], threads)

    def test_choices_count_only_threads_that_can_run(self):
        world = made(PLAIN, s=[("need", "m")], t=[("need", "m")])
        run(world, choices=[0, 1, 1, 1, 1, 1, 1, 0, 0])
        self.assertEqual("".join(event[1] for event in world.events()), "st" + "sss" + "tt" + "ss")

    def test_more_choices_than_actions(self):
        world = made(PLAIN, t=[])
        self.assertEqual(run(world, choices=[1] * 50), 1)

    def test_other_choices(self):
        world = made(PLAIN, t=[])
        for value in NO_COUNTS:
            if not isinstance(value, (list, tuple)):
                self.check_error(world, ("InvalidChoices",), run, world, choices=value)
            self.check_error(world, ("InvalidChoices",), run, world, choices=[value])
            self.check_error(world, ("InvalidChoices",), run, world, choices=(0, 1, value))
        self.check_error(world, ("InvalidChoices",), run, world, choices=None, limit=0)
        self.check_error(world, ("InvalidChoices",), run, world, choices=[0, True], limit=0)

    def test_choices_are_unchanged(self):
        choices = [3, 1, 2]
        run(made(PLAIN, s=[("need", "n")], t=[("need", "m")]), choices=choices)
        self.assertEqual(choices, [3, 1, 2])

    def test_limits(self):
        for limit in range(12):
            world = made(PLAIN, t=[("need", "n"), ("read", "a", "n", "y")])
            self.assertEqual(tried(run, world, limit=limit), ("TooMany", limit))
            # The actions stay performed.
            self.assertEqual([len(world.events()), len(world)], [limit, limit + 1])
            self.assertEqual(run(world, limit=12 - limit), 12 - limit)
        for limit in (12, 13, 5000, 10 ** 29):
            world = made(PLAIN, t=[("need", "n"), ("read", "a", "n", "y")])
            self.assertEqual(run(world, limit=limit), 12)

    def test_a_limit_counts_the_actions_of_this_run(self):
        world = made(PLAIN, t=[("need", "n")])
        acted(world, "ttttt")
        self.assertEqual(run(world, limit=6), 6)

    def test_by_name_only(self):
        with self.assertRaises(TypeError):
            run(made(PLAIN, t=[]), [0])
        self.assertEqual(run(world=made(PLAIN, t=[]), choices=(), limit=5), 1)

    def test_run_leaves_waiting_threads_behind_only_if_none_can_run(self):
        world = made(CYCLE, s=[("need", "p")], t=[("need", "q")])
        run(world, choices=[0, 1, 0, 1, 1, 1])
        self.assertEqual([world.can_run(), world.status("s"), world.status("t")], [[], "ended", "ended"])


class Outcomes(WorldCase):
    def test_each_state(self):
        programs = {**PLAIN, **FAILING, "p": [("export", "x", "a"), ("need", "q")], "q": [("need", "p"), ("export", "z", "b")]}
        world = made(programs, s=[("need", "m"), ("try", "f", "d"), ("fail",)], t=[("need", "p")], u=[])
        for count in range(10):
            world.act("s")
        self.assertEqual(world.status("s"), "failed")
        acted(world, "ttt" + "tttt" + "u")
        modules, mains = world.outcome()
        self.assertEqual(modules, (("f", "failed", ()), ("m", "ready", (("x", 5),)), ("p", "running", (("x", 0),)),
                                   ("q", "done", (("z", 0),))))
        self.assertEqual(mains, (("s", "failed", (0, 0, 0, 0)), ("t", "running", (0,) * 4), ("u", "ended", (0,) * 4)))

    def test_kinds(self):
        world = made(PLAIN, t=[("need", "m")])
        run(world)
        self.assertEqual(repr(world.outcome()), "((('m', 'ready', (('x', 5),)),), (('t', 'ended', (0, 0, 0, 0)),))")


class Equality(WorldCase):
    def test_each_difference(self):
        both = {"m": [], "n": []}
        twice = [("need", "m"), ("need", "m")]
        variants = [
            made(PLAIN),
            made(both),
            made(both, t=[]),
            made(both, s=[]),
            made(both, t=[("fail",)]),
            made(both, s=[], t=[]),
            made(both, t=twice),
            made(both, t=twice, s=[("need", "m")]),
        ]
        for actions in ("t", "tt", "ttt", "tttt"):
            world = made(both, t=twice)
            acted(world, actions)
            variants.append(world)
        ended, failed = made(both, t=[]), made(both, t=[("fail",)])
        variants += [ended, failed]
        ended.act("t")
        failed.act("t")
        # The first two differ only in the registry, the others only on the stack.
        for actions in ("tttttt", "ttttt", "t", "tt", "ttt"):
            world = made({"m": [("set", "a", 0), ("set", "a", 1), ("set", "a", 0)]}, t=[("try", "m", "b")])
            acted(world, actions)
            variants.append(world)
        run(variants[-4])
        run(variants[-5])
        variants[-4].unload()
        for one, other in itertools.product(range(len(variants)), repeat=2):
            self.assertIs(variants[one] == variants[other], one == other, msg=f"{one} {other}")
            self.assertIs(variants[one] != variants[other], one != other)

    def test_the_history_is_not_compared(self):
        one, other = made(PLAIN, s=[], t=[]), made(PLAIN, t=[], s=[])
        acted(one, "st")
        acted(other, "ts")
        self.assertIs(one == other, True)
        self.assertNotEqual(one.history(), other.history())
        other.unload()
        self.assertIs(one == other, True)
        self.assertNotEqual(len(one), len(other))

    def test_needs_that_were_ever_recorded_are_not_compared(self):
        # Only if q reads from p before p exports, q needs z.
        programs = {"p": [("set", "a", 1), ("need", "q"), ("export", "x", "a")],
                    "q": [("need", "p"), ("read", "b", "p", "x"), ("skip", "b", 1), ("need", "z")], "z": []}
        one, other = (made(programs, s=[("need", "p")], t=[("need", "q")]) for count in range(2))
        acted(one, "ssts" + "ttt")
        acted(other, "ssts" + "t" + "ss" + "tt")
        for world in (one, other):
            run(world)
            self.assertEqual(world.unload(), world.recorded().closure("p"))
        self.assertEqual([one.recorded().closure("p"), other.recorded().closure("p")], [["p", "q", "z"], ["p", "q"]])
        self.assertIs(one == other, True)

    def test_what_only_the_next_actions_would_show(self):
        one = made({"m": [], "n": []}, s=[("need", "m"), ("need", "n")], t=[("need", "n"), ("need", "m"), ("fail",)])
        run(one, limit=5000)
        thread = one.crew["t"]
        self.assertEqual([thread.main.accessed, thread.asked], [{"n": True, "m": True}] * 2)
        changes = [lambda world: world.crew["t"].main.accessed.pop("m"), lambda world: world.crew["t"].asked.pop("m"),
                   lambda world: setattr(world.crew["t"].main, "requested", True)]
        for change in changes:
            other = one.clone()
            self.assertIs(one == other, True)
            change(other)
            self.assertIs(one == other, False)

    def test_modules_that_were_accessed(self):
        # q looks at p or at r, depending on what p has exported; then all variables are 0 again.
        programs = {"p": [("set", "a", 1), ("need", "q"), ("export", "x", "a"), ("need", "r")],
                    "q": [("need", "p"), ("read", "b", "p", "x"), ("skip", "b", 1), ("need", "r"), ("set", "b", 0)],
                    "r": []}
        one, other = (made(programs, s=[("need", "p")], t=[("need", "q")], u=[("need", "r")]) for count in range(2))
        acted(one, "uuu" + "ssts" + "tttttt" + "t" + "ss")
        acted(other, "uuu" + "ssts" + "t" + "ss" + "tttt")
        self.assertEqual([one.frame_of("q"), one.stack("s")], [other.frame_of("q"), other.stack("s")])
        self.assertIs(one == other, False)

    def test_other_values(self):
        for world in (made(PLAIN), made(PLAIN, t=[])):
            for value in NO_NUMBERS_NO_STRINGS + [0, 1, "", (), Library(PLAIN), world.outcome()]:
                self.assertIs(world == value, False)
                self.assertIs(world != value, True)


class Copies(WorldCase):
    def worlds(self):
        world = made({**PLAIN, **CYCLE, **FAILING}, s=[("need", "p"), ("try", "g", "a")], t=[("need", "q"), ("need", "n")])
        yield world
        while world.can_run():
            world.act(world.can_run()[-1])
            yield world

    def test_clones(self):
        for world in self.worlds():
            other = world.clone()
            self.assertIs(type(other), World)
            self.assertIs(other == world, True)
            self.assertEqual(whole(other), whole(world))

    def test_independent_in_both_directions(self):
        changes = [lambda world: run(world), lambda world: world.undo(count=2), lambda world: world.add_thread("u", []),
                   lambda world: world.act(world.can_run()[0]), lambda world: world.unload()]
        for change, (first, second) in itertools.product(changes, ((0, 1), (1, 0))):
            world = made({**PLAIN, **CYCLE}, s=[("need", "p")], t=[("need", "q"), ("need", "n")])
            acted(world, "ststt")
            pair = [world, world.clone()]
            before = whole(pair[second])
            change(pair[first])
            self.assertEqual(whole(pair[second]), before)
            self.assertNotEqual(whole(pair[first]), before)
            change(pair[second])
            self.assertEqual(whole(pair[0]), whole(pair[1]))
            self.assertIs(pair[0] == pair[1], True)

    def test_worlds_of_one_library_are_independent(self):
        library = Library(PLAIN)
        one, other = World(library), World(library)
        one.add_thread("t", [("need", "n")])
        run(one)
        self.assertEqual(whole(other), whole(World(Library(PLAIN))))
        self.assertEqual(library, Library(PLAIN))

    def test_returned_values_are_new(self):
        world = made({**PLAIN, **FAILING}, t=[("try", "g", "a"), ("need", "n")])
        for count in range(11):
            world.act("t")
        before = copy.deepcopy(whole(world))
        for function in (world.threads, world.can_run, world.events, world.history, world.early):
            function().append("z")
            self.assertIsNot(function(), function())
        world.stack("t").clear()
        world.variables("t")["a"] = 7
        world.exports("m")["z"] = 7
        world.chain("g").clear()
        world.needs().record("z", "z")
        world.recorded().record("z", "z")
        world.unload().append("z")
        world.undo()
        self.assertEqual(whole(world), before)

    def test_events_and_operations_are_tuples(self):
        world = made({**PLAIN, **FAILING}, t=[("try", "g", "a"), ("need", "n")])
        run(world)
        for row in world.events() + world.history():
            self.assertIs(type(row), tuple)
            self.assertNotIn(list, [type(item) for item in row])


class AgainstTheModel(WorldCase):
    """Random worlds under random operations, many of which raise errors, beside the model."""

    def perform(self, world, model, draw, counts):
        kind = draw.choice(["act"] * 30 + ["retry", "retry", "unload"])
        if kind == "act":
            value = draw.choice(world.can_run() or ["u"]) if draw.random() < 0.9 else draw.choice(["u", "v", "w", "k"])
        else:
            value = draw.choice(world.library().modules())
        arguments = [] if kind == "unload" else [value]
        try:
            expected = "returned", getattr(model, kind)(*arguments)
        except Refused as refused:
            expected = refused.args
        found = tried(getattr(world, kind), *arguments)
        self.assertEqual(found, expected)
        self.assertEqual(shown(world), model.shown())
        event = found[1][0] if kind == "act" and found[0] == "returned" else found[0]
        counts[kind, event] = counts.get((kind, event), 0) + 1

    def test_random_worlds(self):
        draw = random.Random(20)
        counts = {}
        for count in range(200):
            programs = drawn_library(draw, draw.randint(2, 5), 6)
            mains = {name: drawn_program(draw, sorted(programs), 5, is_main=True) for name in "uvw"}
            world, model = made(programs, **mains), WorldModel(programs)
            for name, program in mains.items():
                model.add_thread(name, program)
            for step in range(60):
                self.perform(world, model, draw, counts)
        for event in ("remove", "end", "finish", "step", "fail", "request", "continue", "HasEnded", "MustWait"):
            self.assertGreater(counts["act", event], 20, msg=event)
        for key in (("retry", "returned"), ("retry", "StillNeeded"), ("unload", "returned")):
            self.assertGreater(counts[key], 3, msg=key)


if __name__ == "__main__":
    unittest.main()
