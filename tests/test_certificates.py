"""Certificates and their checkers [2, 4, 23]."""

import copy
import inspect
import itertools
import random
import unittest

from cycleready import certificates
from cycleready.certificates import (
    early_path,
    failure_chain,
    is_early_path,
    is_failure_chain,
    is_ready_list,
    is_unready_path,
    is_waiting_path,
    ready_list,
    unready_path,
    waiting_path,
)
from cycleready.world import run
from drawn import drawn_library, drawn_program
from values import NO_NAMES, NO_NUMBERS_NO_STRINGS, Agrees, Refuses, are_same, tried
from world_model import shown
from worlds import acted, made

CYCLE = {"p": [("need", "q"), ("export", "x", "a")], "q": [("set", "a", 1), ("need", "p")]}
FAILING = {"f": [("fail",)], "g": [("need", "f")], "h": [("need", "g")]}
# Values that are no certificate of anything; an Agrees says that it is equal to every name.
NO_CERTIFICATES = [value for value in NO_NUMBERS_NO_STRINGS if not isinstance(value, list)]
NO_CERTIFICATES += [0, 1, "", "p", "q", "pq", (), ("p",), ("p", "q"), ("q",), {"q": 1}, {"q"}]


def lists_of(names, most):
    """All lists of these names with at most so many items, also with repeated ones, the shortest first, sorted."""
    return [list(row) for length in range(most + 1) for row in itertools.product(sorted(names), repeat=length)]


def is_judged_path(world, value, one, ends):
    """Whether a list of names is a path, by the words of the document."""
    pairs = world.needs().pairs()
    steps = [(value[at], value[at + 1]) in pairs for at in range(len(value) - 1)]
    different = all(value.count(item) == 1 for item in value)
    return len(value) > 0 and value[0] == one and value[-1] in ends and different and all(steps)


def tops(world):
    return [world.stack(thread)[-1] for thread in world.can_run() if world.stack(thread)]


def in_states(world, *states):
    return [module for module in world.library().modules() if world.state_of(module) in states]


def is_judged_ready(world, value, module):
    pairs = world.needs().pairs()
    different = all(value.count(item) == 1 for item in value)
    closed = all(target in value for source, target in pairs if source in value)
    return module in value and different and closed and all(item in in_states(world, "ready") for item in value)


class CertificateCase(unittest.TestCase):
    def check_error(self, world, expected, functions, *arguments):
        """A function and its checker raise this error, whatever value is judged; the world is as before."""
        before = shown(world)
        function, checker = functions
        calls = [(function, arguments)] + [(checker, (*arguments, value)) for value in (["p"], [], None, Refuses())]
        for called, given in calls:
            found = tried(called, *given)
            self.assertEqual(found[0], expected[0])
            self.assertTrue(are_same(found, expected))
        self.assertEqual(shown(world), before)

    def check_other_values(self, checker, *arguments):
        for value in NO_CERTIFICATES:
            self.assertIs(checker(*arguments, value), False)
        for item in NO_NAMES + ["z"]:
            for value in ([item], ["p", item], [item, "q"], ["q", item, "p"]):
                self.assertIs(checker(*arguments, value), False)
        self.assertIs(checker(*arguments, []), False)

    def check_lists(self, lists, function, checker, arguments, judge):
        """The checker accepts exactly the lists that the judge accepts; the function returns the first of them."""
        accepted = []
        for value in lists:
            expected = judge(value)
            self.assertIs(checker(*arguments, value), expected)
            if expected:
                accepted.append(value)
        found = function(*arguments)
        self.assertEqual(found, accepted[0] if accepted else None)
        return accepted


class Waiting(CertificateCase):
    FUNCTIONS = (waiting_path, is_waiting_path)

    def started(self):
        world = made(CYCLE, s=[("need", "p")], t=[("need", "q")])
        acted(world, "sts")
        return world

    def test_the_highest_module_itself(self):
        world = self.started()
        self.assertEqual(waiting_path(world=world, thread="s"), ["q"])
        self.assertIs(is_waiting_path(world=world, thread="s", value=["q"]), True)
        self.check_other_values(is_waiting_path, world, "s")

    def test_errors(self):
        world = self.started()
        for value in NO_NAMES + ["p", "u"]:
            self.check_error(world, ("UnknownThread", value), self.FUNCTIONS, world, value)
        self.check_error(world, ("NotWaiting", "t"), self.FUNCTIONS, world, "t")
        run(world)
        self.check_error(world, ("NotWaiting", "s"), self.FUNCTIONS, world, "s")
        self.check_error(world, ("NotWaiting", "t"), self.FUNCTIONS, world, "t")

    def test_not_a_thread_that_failed_or_was_not_requested(self):
        world = made({"m": [("fail",)]}, t=[("need", "m")])
        self.check_error(world, ("NotWaiting", "t"), self.FUNCTIONS, world, "t")
        run(world)
        self.check_error(world, ("NotWaiting", "t"), self.FUNCTIONS, world, "t")

    def test_a_longer_path(self):
        programs = {"a": [("need", "b")], "b": [("need", "c")], "c": [("set", "a", 1)]}
        world = made(programs, s=[("need", "a")], t=[("need", "a")], u=[("need", "b")])
        acted(world, "sst" + "su")
        self.assertEqual([waiting_path(world, "t"), waiting_path(world, "u")], [["a", "b", "c"], ["b", "c"]])
        self.assertIs(is_waiting_path(world, "t", ["b", "c"]), False)
        self.assertIs(is_waiting_path(world, "t", ["a", "c"]), False)
        self.assertIs(is_waiting_path(world, "t", ["a", "b"]), False)

    def test_the_shortest_and_then_the_first(self):
        # a needs c and b, which two threads run; both are highest.
        programs = {"a": [("try", "c", "a"), ("need", "b")], "b": [("set", "a", 1)], "c": [("need", "b")]}
        world = made(programs, s=[("need", "b")], t=[("need", "a")], u=[("need", "a")])
        acted(world, "s" + "ttt" + "u")
        self.assertEqual([world.waits_for("t"), world.waits_for("u"), world.needs().pairs()],
                         ["b", "a", [("a", "c"), ("c", "b")]])
        self.assertEqual(waiting_path(world, "u"), ["a", "c", "b"])
        self.assertEqual(waiting_path(world, "t"), ["b"])

    def test_the_smallest_of_two_that_are_equally_long(self):
        # m looked at n and at o, which are in cycles with it, early; both are run by threads of their own.
        programs = {"m": [("need", "o"), ("need", "n"), ("set", "a", 1)], "n": [("need", "m"), ("set", "a", 1)],
                    "o": [("need", "m"), ("set", "a", 1)]}
        world = made(programs, r=[("need", "m")], s=[("need", "n")], t=[("need", "o")], u=[("need", "m")])
        acted(world, "rst" + "u")
        acted(world, "st" + "rrrr" + "r")
        self.assertEqual([world.stack("r"), world.waits_for("u"), tops(world)], [["m"], "m", ["m", "n", "o"]])
        self.assertEqual(waiting_path(world, "u"), ["m"])
        acted(world, "r")
        self.assertEqual([world.state_of("m"), waiting_path(world, "u")], ["done", ["m", "n"]])
        self.assertIs(is_waiting_path(world, "u", ["m", "o"]), True)
        self.assertIs(is_waiting_path(world, "u", ["m"]), False)

    def test_not_accepted_any_more(self):
        world = self.started()
        self.assertIs(is_waiting_path(world, "s", ["q"]), True)
        acted(world, "tt")
        self.check_error(world, ("NotWaiting", "s"), self.FUNCTIONS, world, "s")
        programs = {"a": [("need", "b")], "b": [("set", "a", 1)]}
        world = made(programs, s=[("need", "a")], t=[("need", "a")])
        acted(world, "st")
        self.assertIs(is_waiting_path(world, "t", ["a"]), True)
        acted(world, "s")
        self.assertIs(is_waiting_path(world, "t", ["a"]), False)
        self.assertIs(is_waiting_path(world, "t", ["a", "b"]), True)
        acted(world, "ss")
        self.assertIs(is_waiting_path(world, "t", ["a", "b"]), False)

    def test_every_list(self):
        world = self.started()
        judge = lambda value: is_judged_path(world, value, "q", tops(world))
        self.check_lists(lists_of("pqz", 4), waiting_path, is_waiting_path, (world, "s"), judge)


class Early(CertificateCase):
    FUNCTIONS = (early_path, is_early_path)

    def started(self):
        world = made(CYCLE, s=[("need", "p")], t=[("need", "q")])
        acted(world, "sts" + "tt")
        return world

    def test_both_directions(self):
        world = self.started()
        self.assertEqual(early_path(world=world, source="q", target="p"), ["p", "q"])
        self.assertEqual(early_path(world, "p", "q"), ["q", "p"])
        self.assertIs(is_early_path(world=world, source="q", target="p", value=["p", "q"]), True)
        self.check_other_values(is_early_path, world, "q", "p")

    def test_errors(self):
        world = made({**CYCLE, **FAILING, "m": []}, s=[("need", "p")], t=[("need", "q")], u=[("try", "h", "a"), ("need", "m")])
        acted(world, "sts" + "tt" + "u" * 14)
        for value in NO_NAMES + ["z", "s"]:
            self.check_error(world, ("UnknownModule", value), self.FUNCTIONS, world, value, "p")
            self.check_error(world, ("UnknownModule", value), self.FUNCTIONS, world, value, None)
            self.check_error(world, ("UnknownModule", value), self.FUNCTIONS, world, "p", value)
            self.check_error(world, ("UnknownModule", value), self.FUNCTIONS, world, "f", value)
        for source, state in {"f": "failed", "m": "ready"}.items():
            self.assertEqual(world.state_of(source), state)
            self.check_error(world, ("WrongState", source, state), self.FUNCTIONS, world, source, "p")
        for source, target in (("p", "p"), ("q", "q"), ("p", "m"), ("q", "f")):
            self.check_error(world, ("NoNeed", source, target), self.FUNCTIONS, world, source, target)
        acted(world, "tt")
        self.assertEqual(world.state_of("q"), "done")
        self.check_error(world, ("WrongState", "q", "done"), self.FUNCTIONS, world, "q", "p")
        world = made(CYCLE, s=[("need", "p")])
        self.check_error(world, ("WrongState", "p", "new"), self.FUNCTIONS, world, "p", "q")

    def test_itself(self):
        world = made({"m": [("need", "m"), ("set", "a", 1)]}, t=[("need", "m")])
        acted(world, "tt")
        for count in range(2):
            self.assertEqual(early_path(world, "m", "m"), ["m"])
            self.assertIs(is_early_path(world, "m", "m", ["m"]), True)
            self.assertIs(is_early_path(world, "m", "m", ["m", "m"]), False)
            self.assertIs(is_early_path(world, "m", "m", []), False)
            acted(world, "t")

    def check_none(self, world, source, target, answer):
        self.assertEqual(world.registry.answer(source, target), answer)
        self.assertIsNone(early_path(world, source, target))
        for value in lists_of(world.library().modules(), 3):
            self.assertIs(is_early_path(world, source, target, value), False)

    def test_other_answers(self):
        world = made(CYCLE, s=[("need", "p")], t=[("need", "q")])
        acted(world, "sts")
        self.check_none(world, "p", "q", "wait")
        world = made({"m": [], "n": [("need", "m"), ("set", "a", 1)]}, t=[("need", "n")])
        acted(world, "ttt")
        self.check_none(world, "n", "m", "ready")
        world = made(FAILING, t=[("need", "g")])
        acted(world, "ttt")
        self.check_none(world, "g", "f", "failed")

    def test_a_failed_target_that_depends_on_the_source(self):
        # f is failed and held, so it still depends on g, but the answer is another one.
        world = made({"g": [("need", "f")], "f": [("try", "g", "a"), ("fail",)]}, t=[("need", "g")])
        acted(world, "ttttt")
        self.assertEqual([world.state_of("f"), world.needs().depends("f", "g")], ["failed", True])
        self.check_none(world, "g", "f", "failed")

    def test_an_access_before_without_a_dependency_now(self):
        # n depended on m through x, which failed.
        programs = {"m": [("need", "n"), ("need", "n")], "n": [("try", "x", "a"), ("set", "a", 1)],
                    "x": [("need", "m"), ("fail",)]}
        world = made(programs, s=[("need", "m")], t=[("need", "n")])
        acted(world, "st" + "s" + "tt")
        self.assertEqual(world.needs().pairs(), [("m", "n"), ("n", "x"), ("x", "m")])
        self.assertEqual(early_path(world, "m", "n"), ["n", "x", "m"])
        acted(world, "s" + "s" + "t" + "t" + "t" + "t")
        self.assertEqual([world.needs().pairs(), world.early()], [[("m", "n")], [("m", "n")]])
        self.check_none(world, "m", "n", "early")

    def test_the_shortest_and_then_the_first(self):
        programs = {"a": [("need", "b")], "b": [("try", "d", "a"), ("try", "c", "a"), ("set", "a", 1)],
                    "c": [("need", "a")], "d": [("need", "a")]}
        world = made(programs, t=[("need", "a")])
        while world.next_step("t") != ("set", "a", 1):
            world.act("t")
        self.assertEqual(early_path(world, "a", "b"), ["b", "c", "a"])
        self.assertIs(is_early_path(world, "a", "b", ["b", "d", "a"]), True)
        self.assertIs(is_early_path(world, "a", "b", ["b", "a"]), False)

    def test_every_list(self):
        world = self.started()
        judge = lambda value: is_judged_path(world, value, "p", ["q"])
        self.check_lists(lists_of("pqz", 4), early_path, is_early_path, (world, "q", "p"), judge)


class Ready(CertificateCase):
    FUNCTIONS = (ready_list, is_ready_list)

    def started(self):
        world = made({**CYCLE, "m": [("need", "p")], "k": []}, s=[("need", "m")], t=[("need", "k")])
        run(world)
        return world

    def test_the_sorted_closure(self):
        world = self.started()
        self.assertEqual([ready_list(world, module) for module in "mpqk"], [["m", "p", "q"], ["p", "q"], ["p", "q"], ["k"]])
        self.assertEqual(ready_list(world=world, module="k"), ["k"])
        self.assertIs(is_ready_list(world=world, module="k", value=["k"]), True)
        for module in "mpqk":
            self.assertIs(is_ready_list(world, module, ready_list(world, module)), True)

    def test_other_orders_and_more_modules(self):
        world = self.started()
        for value in (["q", "p"], ["p", "q", "k"], ["m", "p", "q"], ["k", "q", "m", "p"]):
            self.assertIs(is_ready_list(world, "p", value), True)
        for value in (["p"], ["q"], ["p", "q", "p"], ["m", "q"], ["k"], ["p", "q", "z"]):
            self.assertIs(is_ready_list(world, "p", value), False)

    def test_other_values(self):
        world = self.started()
        self.check_other_values(is_ready_list, world, "m")
        for value in (["m", "p", "q", Agrees()], [Agrees()] * 3, ["m", "p", "q", None], ["m", "p", "q", Refuses()]):
            self.assertIs(is_ready_list(world, "m", value), False)

    def test_only_ready_modules(self):
        world = made({"m": [], "n": [("set", "a", 1)], "f": [("fail",)]}, s=[("need", "m")], t=[("need", "n")], u=[("need", "f")])
        acted(world, "ss" + "t" + "uu")
        self.assertIs(is_ready_list(world, "m", ["m"]), True)
        for other in "nf":
            self.assertIs(is_ready_list(world, "m", ["m", other]), False)

    def test_errors(self):
        world = made({**CYCLE, **FAILING}, s=[("need", "p")], t=[("need", "q")], u=[("need", "f")])
        acted(world, "sts" + "tttt" + "uu")
        for value in NO_NAMES + ["z", "s"]:
            self.check_error(world, ("UnknownModule", value), self.FUNCTIONS, world, value)
        for module, state in {"p": "running", "q": "done", "f": "failed", "g": "new"}.items():
            self.check_error(world, ("WrongState", module, state), self.FUNCTIONS, world, module)

    def test_not_accepted_any_more(self):
        world = self.started()
        self.assertIs(is_ready_list(world, "k", ["k", "p", "q"]), True)
        world.add_thread("u", [("need", "k"), ("set", "a", 1)])
        acted(world, "u")
        self.assertEqual(world.unload(), ["m", "p", "q"])
        self.assertIs(is_ready_list(world, "k", ["k", "p", "q"]), False)
        self.assertIs(is_ready_list(world, "k", ["k"]), True)

    def test_every_list(self):
        world = self.started()
        for module in "kmpq":
            for value in lists_of("kmpqz", 4):
                self.assertIs(is_ready_list(world, module, value), is_judged_ready(world, value, module))


class Unready(CertificateCase):
    FUNCTIONS = (unready_path, is_unready_path)

    def started(self):
        world = made(CYCLE, s=[("need", "p")], t=[("need", "q")])
        acted(world, "sts" + "tttt")
        return world

    def test_a_running_module(self):
        world = self.started()
        self.assertEqual(unready_path(world=world, module="q"), ["q", "p"])
        self.assertIs(is_unready_path(world=world, module="q", value=["q", "p"]), True)
        self.check_other_values(is_unready_path, world, "q")

    def test_a_failed_module(self):
        # q is done; it needs r, which needs f, which is failed.
        programs = {"q": [("need", "r"), ("set", "a", 1)], "r": [("need", "q"), ("need", "f"), ("set", "a", 1)], "f": [("fail",)]}
        world = made(programs, s=[("need", "q")], t=[("need", "r")])
        acted(world, "sts" + "t" + "sss")
        self.assertEqual([world.state_of("q"), unready_path(world, "q")], ["done", ["q", "r"]])
        acted(world, "ttt")
        self.assertEqual([world.state_of("f"), world.state_of("r")], ["failed", "running"])
        self.assertIs(is_unready_path(world, "q", ["q", "r", "f"]), True)
        self.assertEqual(unready_path(world, "q"), ["q", "r"])

    def test_the_shortest_and_then_the_first(self):
        programs = {"q": [("need", "o"), ("need", "n"), ("set", "a", 1)], "n": [("need", "q"), ("set", "a", 1)],
                    "o": [("need", "q"), ("set", "a", 1)]}
        world = made(programs, r=[("need", "q")], s=[("need", "n")], t=[("need", "o")])
        acted(world, "rst" + "st" + "rrrrrr")
        self.assertEqual([world.state_of("q"), unready_path(world, "q")], ["done", ["q", "n"]])
        self.assertIs(is_unready_path(world, "q", ["q", "o"]), True)

    def test_errors(self):
        world = made({**CYCLE, **FAILING, "m": []}, s=[("need", "p")], t=[("need", "m")], u=[("need", "f")])
        acted(world, "s" + "tt" + "uu")
        for value in NO_NAMES + ["z", "s"]:
            self.check_error(world, ("UnknownModule", value), self.FUNCTIONS, world, value)
        for module, state in {"p": "running", "q": "new", "f": "failed", "m": "ready"}.items():
            self.check_error(world, ("WrongState", module, state), self.FUNCTIONS, world, module)

    def test_not_accepted_any_more(self):
        world = self.started()
        self.assertIs(is_unready_path(world, "q", ["q", "p"]), True)
        acted(world, "sss")
        self.check_error(world, ("WrongState", "q", "ready"), self.FUNCTIONS, world, "q")

    def test_every_list(self):
        world = self.started()
        judge = lambda value: is_judged_path(world, value, "q", in_states(world, "running", "failed"))
        self.check_lists(lists_of("pqz", 4), unready_path, is_unready_path, (world, "q"), judge)


class Failed(CertificateCase):
    FUNCTIONS = (failure_chain, is_failure_chain)

    def started(self):
        world = made(FAILING, t=[("try", "h", "a")])
        run(world)
        return world

    def test_chains(self):
        world = self.started()
        self.assertEqual([failure_chain(world, module) for module in "fgh"], [["f"], ["g", "f"], ["h", "g", "f"]])
        self.assertEqual(failure_chain(world=world, module="f"), ["f"])
        self.assertIs(is_failure_chain(world=world, module="g", value=["g", "f"]), True)
        self.check_other_values(is_failure_chain, world, "h")
        for value in (["h", "g", Agrees()], [Agrees()] * 3, ("h", "g", "f")):
            self.assertIs(is_failure_chain(world, "h", value), False)

    def test_errors(self):
        world = made({**CYCLE, **FAILING, "m": []}, s=[("need", "p")], t=[("need", "q")], u=[("need", "m")])
        acted(world, "sts" + "tttt" + "uu")
        for value in NO_NAMES + ["z", "s"]:
            self.check_error(world, ("UnknownModule", value), self.FUNCTIONS, world, value)
        for module, state in {"p": "running", "q": "done", "f": "new", "m": "ready"}.items():
            self.check_error(world, ("WrongState", module, state), self.FUNCTIONS, world, module)

    def test_a_module_twice_in_a_chain(self):
        # f failed because of g, then g, which was retried, because of f.
        programs = {"f": [("need", "g")], "g": [("need", "k"), ("read", "a", "k", "x"), ("skip", "a", 1), ("fail",), ("need", "f")],
                    "k": [("try", "f", "a"), ("set", "b", 1), ("export", "x", "b")]}
        world = made(programs, t=[("try", "k", "a")])
        run(world)
        world.retry("g")
        world.add_thread("s", [("try", "g", "a")])
        run(world)
        self.assertEqual(failure_chain(world, "g"), ["g", "f", "g"])
        self.assertIs(is_failure_chain(world, "g", ["g", "f", "g"]), True)
        self.assertIs(is_failure_chain(world, "g", ["g", "f"]), False)

    def test_not_accepted_any_more(self):
        world = self.started()
        world.retry("f")
        self.check_error(world, ("WrongState", "f", "new"), self.FUNCTIONS, world, "f")
        self.assertIs(is_failure_chain(world, "g", ["g", "f"]), True)

    def test_every_list(self):
        world = self.started()
        for module in "fgh":
            for value in lists_of("fghz", 4):
                self.assertIs(is_failure_chain(world, module, value), value == world.chain(module))


class Arguments(CertificateCase):
    def test_parameters(self):
        for function in ("waiting_path", "early_path", "ready_list", "unready_path", "failure_chain"):
            names = {"waiting_path": ["world", "thread"], "early_path": ["world", "source", "target"]}
            expected = names.get(function, ["world", "module"])
            self.assertEqual(list(inspect.signature(getattr(certificates, function)).parameters), expected)
            checker = getattr(certificates, f"is_{function}")
            self.assertEqual(list(inspect.signature(checker).parameters), expected + ["value"])

    def test_returned_lists_are_new_and_values_unchanged(self):
        world = made(CYCLE, s=[("need", "p")], t=[("need", "q")])
        acted(world, "sts")
        for found in (waiting_path(world, "s"), waiting_path(world, "s")):
            found.append("z")
        self.assertEqual(waiting_path(world, "s"), ["q"])
        value = ["q"]
        is_waiting_path(world, "s", value)
        self.assertEqual(value, ["q"])
        world = made(FAILING, t=[("need", "g")])
        run(world)
        failure_chain(world, "g").clear()
        self.assertEqual(failure_chain(world, "g"), ["g", "f"])

    def test_the_world_does_not_change(self):
        world = made({**CYCLE, **FAILING}, s=[("need", "p")], t=[("need", "q")], u=[("need", "f")], v=[("need", "q")])
        acted(world, "sts" + "tttt" + "uu" + "v")
        before = copy.deepcopy(shown(world)), world.history()
        found = [waiting_path(world, "v"), early_path(world, "p", "q"), unready_path(world, "q"), failure_chain(world, "f")]
        self.assertEqual(found, [["q", "p"], ["q", "p"], ["q", "p"], ["f"]])
        self.assertEqual((shown(world), world.history()), before)


class RandomWorlds(CertificateCase):
    """Each waiting thread, each possible early access and each module has exactly the certificates that are right."""

    def check_world(self, world, counts):
        modules = world.library().modules()
        lists = [list(row) for length in range(len(modules) + 1) for row in itertools.permutations(modules, length)]
        for thread in world.threads():
            target = world.waits_for(thread)
            if target is not None:
                judge = lambda value: is_judged_path(world, value, target, tops(world))
                found = self.check_lists(lists, waiting_path, is_waiting_path, (world, thread), judge)
                self.assertNotEqual(found, [])
                counts["waiting"] += 1
        for module in modules:
            self.check_module(world, module, lists, counts)
        for source, target in world.needs().pairs():
            if world.state_of(source) == "running":
                is_early = world.registry.answer(source, target) == "early"
                judge = lambda value: is_early and is_judged_path(world, value, target, [source])
                found = self.check_lists(lists, early_path, is_early_path, (world, source, target), judge)
                self.assertTrue(found or not is_early or (source, target) in world.early())
                counts["early"] += is_early

    def check_module(self, world, module, lists, counts):
        state = world.state_of(module)
        if state == "done":
            judge = lambda value: is_judged_path(world, value, module, in_states(world, "running", "failed"))
            self.assertNotEqual(self.check_lists(lists, unready_path, is_unready_path, (world, module), judge), [])
        elif state == "ready":
            for value in lists:
                self.assertIs(is_ready_list(world, module, value), is_judged_ready(world, value, module))
            self.assertEqual(ready_list(world, module), world.needs().closure(module))
            self.assertIs(is_ready_list(world, module, ready_list(world, module)), True)
        elif state == "failed":
            self.assertIs(is_failure_chain(world, module, failure_chain(world, module)), True)
        counts[state] += 1

    def test_random_worlds(self):
        draw = random.Random(23)
        counts = dict.fromkeys(["waiting", "early", "new", "running", "done", "ready", "failed"], 0)
        for count in range(40):
            programs = drawn_library(draw, draw.randint(2, 4), 5)
            mains = {name: drawn_program(draw, sorted(programs), 4, is_main=True) for name in "uvw"}
            world = made(programs, **mains)
            while world.can_run():
                world.act(draw.choice(world.can_run()))
                self.check_world(world, counts)
        for kind, many in counts.items():
            self.assertGreater(many, 20, msg=kind)


if __name__ == "__main__":
    unittest.main()
