"""Registries [2, 11 to 16]."""

import inspect
import itertools
import random
import unittest

from cycleready.needs import Needs
from cycleready.registry import Registry
from registry_model import Refused, RegistryModel, shown
from values import NO_NAMES, NO_NUMBERS_NO_STRINGS, Number, Word, are_same, is_same, tried

FORTY = [first + second for first in "abcd" for second in "abcdefghij"]
NO_MODULES = NO_NAMES + ["x", "states", "mm"]
NO_INTEGERS = NO_NUMBERS_NO_STRINGS + ["", "1", (), (1,)]


def built(names, *calls):
    """A registry of these names after calls, each written as its words."""
    registry = Registry(names.split())
    for call in calls:
        method, *words = call.split()
        arguments = [None if word == "-" else word for word in words]
        getattr(registry, method)(*arguments)
    return registry


class RegistryCase(unittest.TestCase):
    def check_error(self, registry, expected, function, *arguments, **named):
        """The call raises this error, and the registry is as before."""
        before, copy = shown(registry), registry.clone()
        found = tried(function, *arguments, **named)
        self.assertEqual(found[0], expected[0])
        self.assertTrue(are_same(found, expected))
        self.assertEqual(shown(registry), before)
        self.assertIs(registry == copy, True)

    def check_unknown(self, registry, function, *arguments, **named):
        """The call raises UnknownModule for each value in the place of Ellipsis."""
        # None may stand for a main program, or for no cause.
        can_be_none = len(arguments) == 2 and arguments[0] is ... or "because" in named
        for value in NO_MODULES:
            given = [value if argument is ... else argument for argument in arguments]
            by_name = {name: value if argument is ... else argument for name, argument in named.items()}
            if value is not None or not can_be_none:
                self.check_error(registry, ("UnknownModule", value), function, *given, **by_name)


class Beginnings(RegistryCase):
    def test_a_new_registry(self):
        registry = Registry(["n", "m"])
        self.assertEqual(shown(registry), [{"m": "new", "n": "new"}, {"m": {}, "n": {}}, [], [], [], {}, []])
        self.assertEqual(registry.names(), ["m", "n"])

    def test_numbers_of_names(self):
        for names in (["m"], FORTY[:2], FORTY[:39], FORTY):
            for value in (names, tuple(names), names[::-1]):
                self.assertEqual(Registry(value).names(), names)
                self.assertEqual(len(Registry(value)), len(names))
        for names in ([], FORTY + ["x"]):
            for value in (names, tuple(names)):
                self.assertEqual(tried(Registry, value), ("InvalidModules",))

    def test_values_that_are_not_lists_of_names(self):
        values = [value for value in NO_NUMBERS_NO_STRINGS if not isinstance(value, list)]
        for value in values + [0, 1, "", "m", "abc", {"m": 1}, {"m"}, iter(["m"])]:
            self.assertEqual(tried(Registry, value), ("InvalidModules",))

    def test_wrong_names(self):
        for value in NO_NAMES:
            for names in ([value], ["m", value], (value, "m", "n"), [value, value]):
                self.assertEqual(tried(Registry, names), ("InvalidModules",))

    def test_a_name_twice(self):
        for names in (["m", "m"], ("m", "n", "m"), FORTY[:39] + ["aa"], ["m", Word.MODULE]):
            self.assertEqual(tried(Registry, names), ("InvalidModules",))

    def test_by_name(self):
        self.assertEqual(Registry(names=("m",)), Registry(["m"]))
        self.assertEqual(list(inspect.signature(Registry).parameters), ["names"])

    def test_the_argument_is_copied_and_unchanged(self):
        names = ["n", "m"]
        registry = Registry(names)
        self.assertEqual(names, ["n", "m"])
        names.append("o")
        self.assertEqual(registry.names(), ["m", "n"])

    def test_names_that_show_themselves_in_another_way(self):
        registry = Registry([Word.MODULE, Word.OTHER])
        registry.request(None, Word.MODULE)
        registry.request(Word.MODULE, Word.OTHER)
        registry.export(Word.MODULE, Word.OTHER, Number.FEW)
        self.assertEqual(repr(registry.names() + [registry.exports("m"), registry.needs()]),
                         "['m', 'n', {'n': -3}, Needs([('m', 'n')])]")
        registry.fail(Word.OTHER)
        self.assertEqual(registry.access(Word.MODULE, Word.OTHER), "failed")
        self.assertEqual(repr(registry.fail(Word.MODULE, because=Word.OTHER)), "['m']")
        self.assertEqual(repr(registry.chain(Word.MODULE)), "['m', 'n']")

    def test_states(self):
        self.assertEqual(Registry.STATES, ("new", "running", "done", "ready", "failed"))
        self.assertIs(type(Registry.STATES), tuple)
        self.assertEqual(Registry(["m"]).STATES, Registry.STATES)

    def test_is_state(self):
        for value in Registry.STATES:
            self.assertIs(Registry.is_state(value), True)
            self.assertIs(Registry(["m"]).is_state(value=value), True)
        for value in NO_NAMES + ["new ", "New", "held", "ended", "early", "m"]:
            self.assertIs(Registry.is_state(value), False)

    def test_parameters(self):
        expected = {
            "names": [], "state_of": ["module"], "in_state": ["state"], "request": ["source", "target"],
            "answer": ["source", "target"], "access": ["source", "target"], "export": ["module", "name", "value"],
            "exports": ["module"], "value_of": ["module", "name"], "finish": ["module"], "fail": ["module", "because"],
            "chain": ["module"], "is_held": ["module"], "release": ["module"], "retry": ["module"], "unload": ["kept"],
            "needs": [], "recorded": [], "early": [], "clone": [],
        }
        for method, names in expected.items():
            parameters = inspect.signature(getattr(Registry, method)).parameters
            self.assertEqual(list(parameters), ["self"] + names, msg=method)
        because = inspect.signature(Registry.fail).parameters["because"]
        kept = inspect.signature(Registry.unload).parameters["kept"]
        self.assertEqual([because.kind, kept.kind], [inspect.Parameter.KEYWORD_ONLY] * 2)
        self.assertEqual([because.default, kept.default], [None, ()])


class States(RegistryCase):
    def test_each_state(self):
        registry = built("f m n o p", "request - f", "fail f", "request - m", "request m o", "finish m")
        registry.request(None, "p")
        registry.finish("p")
        expected = {"f": "failed", "m": "done", "n": "new", "o": "running", "p": "ready"}
        for module, state in expected.items():
            self.assertEqual(registry.state_of(module), state)
            self.assertEqual(registry.in_state(state), [module])
            self.assertEqual(registry.in_state(state=state), [module])

    def test_in_state_is_sorted(self):
        registry = built("m n o p", "request - p", "request - m", "request - o")
        self.assertEqual(registry.in_state("running"), ["m", "o", "p"])
        self.assertEqual(registry.in_state("new"), ["n"])
        self.assertEqual(registry.in_state("done"), [])

    def test_in_state_of_other_values(self):
        registry = Registry(["m"])
        for value in NO_NAMES + ["held", "m", "New"]:
            self.assertEqual(registry.in_state(value), [])

    def test_unknown_modules(self):
        registry = built("m n", "request - m")
        for function in (registry.state_of, registry.exports, registry.is_held, registry.chain, registry.finish,
                         registry.fail, registry.release, registry.retry):
            self.check_unknown(registry, function, ...)
            self.check_unknown(registry, function, module=...)


class Requests(RegistryCase):
    def test_by_a_main_program(self):
        registry = Registry(["m", "n"])
        self.assertIs(registry.request(None, "m"), True)
        self.assertEqual(registry.state_of("m"), "running")
        self.assertIs(registry.request(source=None, target="m"), False)
        self.assertEqual([registry.needs().pairs(), registry.recorded().pairs()], [[], []])

    def test_by_a_running_module(self):
        registry = built("m n", "request - m")
        self.assertIs(registry.request("m", "n"), True)
        self.assertIs(registry.request("m", "n"), False)
        self.assertEqual(registry.needs(), Needs.of(("m", "n")))
        self.assertEqual(registry.recorded(), Needs.of(("m", "n")))

    def test_by_itself(self):
        registry = built("m", "request - m")
        self.assertIs(registry.request("m", "m"), False)
        self.assertEqual(registry.needs().pairs(), [("m", "m")])
        self.assertEqual(registry.answer("m", "m"), "early")

    def test_of_modules_in_each_state(self):
        registry = built("d f m n r x", "request - x", "request - d", "request d x", "finish d", "request - f", "fail f",
                         "request - r", "finish r", "request - m")
        for target, state in {"d": "done", "f": "failed", "m": "running", "r": "ready", "x": "running"}.items():
            self.assertIs(registry.request("m", target), False)
            self.assertEqual(registry.state_of(target), state)
            self.assertIn(("m", target), registry.needs().pairs())
            self.assertIs(registry.request(None, target), False)
        self.assertIs(registry.request("m", "n"), True)

    def test_by_modules_that_are_not_running(self):
        registry = built("d f m n r x", "request - x", "request - d", "request d x", "finish d", "request - f", "fail f",
                         "request - r", "finish r")
        for source, state in {"d": "done", "f": "failed", "n": "new", "r": "ready"}.items():
            for function in (registry.request, registry.answer, registry.access):
                for target in ("x", "n", source):
                    self.check_error(registry, ("WrongState", source, state), function, source, target)

    def test_unknown_sources_and_targets(self):
        registry = built("m n", "request - m", "request m n")
        for function in (registry.request, registry.answer, registry.access):
            self.check_unknown(registry, function, ..., "n")
            self.check_unknown(registry, function, "m", ...)
            self.check_unknown(registry, function, source="m", target=...)
            for value in NO_MODULES:
                self.check_error(registry, ("UnknownModule", value), function, None, value)
                self.check_error(registry, ("UnknownModule", "k"), function, "k", value)
        registry = Registry(["m", "n"])
        for value in NO_MODULES:
            self.check_error(registry, ("UnknownModule", value), registry.request, "m", value)


class Answers(RegistryCase):
    def test_to_main_programs(self):
        registry = built("d f m n r", "request - m", "request - d", "request d m", "finish d", "request - f", "fail f",
                         "request - r", "finish r")
        for target, answer in {"n": "wait", "m": "wait", "d": "wait", "r": "ready", "f": "failed"}.items():
            self.assertEqual(registry.answer(None, target), answer)

    def test_to_modules(self):
        registry = built("d f m o r", "request - o", "request - d", "request d o", "finish d", "request - f", "fail f",
                         "request - r", "finish r", "request - m")
        for target, answer in {"o": "wait", "d": "wait", "r": "ready", "f": "failed", "m": "early"}.items():
            registry.request("m", target)
            self.assertEqual(registry.answer("m", target), answer)

    def test_early_because_the_target_depends_on_the_source(self):
        registry = built("m n o", "request - m", "request m n", "request n o", "request o n")
        self.assertEqual(registry.answer("m", "n"), "wait")
        self.assertEqual([registry.answer("n", "o"), registry.answer("o", "n")], ["early", "early"])
        registry.request("o", "m")
        self.assertEqual([registry.answer("m", "n"), registry.answer("o", "m")], ["early", "early"])
        self.assertEqual(registry.early(), [])

    def test_early_because_it_was_accessed_early_before(self):
        # n depends on m through x, which fails: then n does not depend on m any more.
        registry = built("m n x", "request - m", "request m n", "request n x", "request x m", "access m n", "fail x")
        self.assertEqual(registry.answer("m", "n"), "early")
        registry.release("x")
        self.assertIs(registry.needs().depends("n", "m"), False)
        self.assertEqual(registry.answer("m", "n"), "early")
        self.assertEqual(registry.access("m", "n"), "early")
        # Without the access before, the answer is another one.
        registry = built("m n x", "request - m", "request m n", "request n x", "request x m", "fail x", "release x")
        self.assertEqual(registry.answer("m", "n"), "wait")

    def test_a_main_program_waits_for_a_module_that_another_accesses_early(self):
        registry = built("m n", "request - m", "request m n", "request n m")
        self.assertEqual([registry.answer(None, "m"), registry.answer(None, "n")], ["wait", "wait"])

    def test_needs_that_are_not_recorded(self):
        registry = built("m n", "request - m", "request - n", "request n m")
        for function in (registry.answer, registry.access):
            for target in ("m", "n"):
                self.check_error(registry, ("NoNeed", "m", target), function, "m", target)
        self.assertEqual(registry.answer("n", "m"), "wait")

    def test_must_wait(self):
        registry = built("m n", "request - m", "request m n")
        self.check_error(registry, ("MustWait", "m", "n"), registry.access, "m", "n")
        self.check_error(registry, ("MustWait", None, "n"), registry.access, None, "n")
        registry = Registry(["m"])
        self.check_error(registry, ("MustWait", None, "m"), registry.access, None, "m")

    def test_access_of_a_ready_module(self):
        registry = built("m n", "request - m", "request m n", "finish n")
        before = shown(registry)
        self.assertEqual([registry.access("m", "n"), registry.access(source=None, target="n")], ["ready", "ready"])
        self.assertEqual(shown(registry), before)

    def test_access_of_a_failed_module_deletes_the_need(self):
        registry = built("m n", "request - m", "request m n", "fail n")
        self.assertEqual(registry.access(None, "n"), "failed")
        self.assertEqual(registry.needs().pairs(), [("m", "n")])
        self.assertEqual(registry.access("m", "n"), "failed")
        self.assertEqual([registry.needs().pairs(), registry.recorded().pairs()], [[], [("m", "n")]])
        self.check_error(registry, ("NoNeed", "m", "n"), registry.access, "m", "n")
        self.assertEqual(registry.access(None, "n"), "failed")

    def test_early_access(self):
        registry = built("m n", "request - m", "request m n", "request n m")
        self.assertEqual(registry.access("n", "m"), "early")
        self.assertEqual([registry.early(), registry.needs().pairs()], [[("n", "m")], [("m", "n"), ("n", "m")]])
        self.assertEqual(registry.access("n", "m"), "early")
        self.assertEqual(registry.access("m", "n"), "early")
        self.assertEqual(registry.early(), [("m", "n"), ("n", "m")])

    def test_an_early_access_is_kept_while_the_source_is_running_or_done(self):
        registry = built("m n o", "request - m", "request m n", "request n m", "request m o", "access n m", "finish n")
        self.assertEqual([registry.state_of("n"), registry.early()], ["done", [("n", "m")]])
        registry.finish("o")
        self.assertEqual(registry.early(), [("n", "m")])
        registry.finish("m")
        self.assertEqual(registry.early(), [])

    def test_an_early_access_is_kept_if_only_the_target_is_ready(self):
        registry = built("m n x", "request - m", "request m n", "request n x", "request x m", "access m n", "fail x",
                         "access n x", "finish n")
        self.assertEqual([registry.state_of("n"), registry.state_of("m")], ["ready", "running"])
        self.assertEqual([registry.early(), registry.answer("m", "n")], [[("m", "n")], "ready"])
        registry.finish("m")
        self.assertEqual([registry.state_of("m"), registry.early()], ["ready", []])


class Exports(RegistryCase):
    def test_export_and_read(self):
        registry = built("m n", "request - m")
        self.assertIsNone(registry.export("m", "y", 4))
        registry.export(module="m", name="x", value=-7)
        self.assertEqual(list(registry.exports("m").items()), [("x", -7), ("y", 4)])
        self.assertEqual([registry.value_of("m", "x"), registry.value_of(module="m", name="y")], [-7, 4])
        self.assertEqual([registry.value_of("m", "z"), registry.value_of("n", "x"), registry.exports("n")], [-1, -1, {}])

    def test_again_under_the_same_name(self):
        registry = built("m", "request - m")
        for value in (4, -1, 10 ** 29, 0):
            registry.export("m", "x", value)
            self.assertEqual([registry.exports("m"), registry.value_of("m", "x")], [{"x": value}, value])

    def test_names_that_are_not_exported(self):
        registry = built("m", "request - m")
        registry.export("m", "x", 4)
        for value in NO_NAMES + ["y", "m"]:
            self.assertTrue(is_same(registry.value_of("m", value), -1))
        self.check_unknown(registry, registry.value_of, ..., "x")

    def test_errors(self):
        registry = built("d f m n r", "request - m", "request - d", "request d m", "finish d", "request - f", "fail f",
                         "request - r", "finish r")
        self.check_unknown(registry, registry.export, ..., "x", 1)
        self.check_unknown(registry, registry.export, ..., None, None)
        for module, state in {"d": "done", "f": "failed", "n": "new", "r": "ready"}.items():
            for name, value in (("x", 1), (None, 1), ("x", None), (7, True)):
                self.check_error(registry, ("WrongState", module, state), registry.export, module, name, value)
        for name in NO_NAMES:
            for value in (1, None):
                self.check_error(registry, ("InvalidName", name), registry.export, "m", name, value)
        for value in NO_INTEGERS:
            self.check_error(registry, ("InvalidNumber",), registry.export, "m", "x", value)

    def test_exports_after_a_failure(self):
        registry = built("m n", "request - m", "request m n", "request n m", "access n m")
        registry.export("m", "x", 1)
        registry.export("n", "y", 2)
        registry.fail("m")
        self.assertEqual([registry.exports("m"), registry.exports("n")], [{}, {}])
        self.assertEqual([registry.value_of("m", "x"), registry.value_of("n", "y")], [-1, -1])

    def test_exports_stay_when_a_module_is_done_and_ready(self):
        registry = built("m n", "request - m", "request m n", "request n m", "access n m")
        registry.export("n", "y", 2)
        for module in ("n", "m"):
            registry.finish(module)
            self.assertEqual(registry.exports("n"), {"y": 2})


class Finishing(RegistryCase):
    def test_alone(self):
        registry = built("m", "request - m")
        self.assertEqual(registry.finish(module="m"), ["m"])
        self.assertEqual(registry.state_of("m"), "ready")

    def test_a_module_that_needs_itself(self):
        registry = built("m", "request - m", "request m m", "access m m")
        self.assertEqual([registry.finish("m"), registry.early()], [["m"], []])

    def test_a_chain_of_needs(self):
        registry = built("m n o p", "request - p", "request p n", "request n o", "finish n", "finish p")
        self.assertEqual([registry.state_of("n"), registry.state_of("p")], ["done", "done"])
        self.assertEqual(registry.finish("o"), ["n", "o", "p"])

    def test_a_cycle(self):
        registry = built("m n o", "request - m", "request m n", "request n o", "request o m")
        self.assertEqual([registry.finish("o"), registry.finish("m"), registry.finish("n")], [[], [], ["m", "n", "o"]])

    def test_two_cycles_at_the_same_moment(self):
        registry = built("a b c d e", "request - a", "request a b", "request b a", "request b c", "request c d",
                         "request d c", "request - e", "finish a", "finish b", "finish d")
        self.assertEqual(registry.in_state("done"), ["a", "b", "d"])
        self.assertEqual(registry.finish("c"), ["a", "b", "c", "d"])
        self.assertEqual(registry.state_of("e"), "running")

    def test_only_what_is_complete_becomes_ready(self):
        registry = built("a b c x", "request - a", "request a b", "request a x", "request b c", "finish a", "finish c")
        self.assertEqual([registry.in_state("ready"), registry.finish("b")], [["c"], ["b"]])
        self.assertEqual([registry.state_of("a"), registry.finish("x")], ["done", ["a", "x"]])

    def test_a_failed_module_that_is_needed(self):
        # The program of a never asked for the answer, so its need of f stays.
        registry = built("a f", "request - a", "request a f", "fail f", "release f")
        self.assertEqual([registry.finish("a"), registry.state_of("a")], [[], "done"])

    def test_a_failed_module_that_was_accessed(self):
        registry = built("a f", "request - a", "request a f", "fail f", "access a f")
        self.assertEqual(registry.finish("a"), ["a"])

    def test_other_states(self):
        registry = built("d f m n r", "request - m", "request - d", "request d m", "finish d", "request - f", "fail f",
                         "request - r", "finish r")
        for module, state in {"d": "done", "f": "failed", "n": "new", "r": "ready"}.items():
            self.check_error(registry, ("WrongState", module, state), registry.finish, module)


class Failing(RegistryCase):
    def test_alone(self):
        registry = built("m n", "request - m", "request m n")
        self.assertEqual(registry.fail(module="n"), ["n"])
        self.assertEqual([registry.state_of("n"), registry.state_of("m")], ["failed", "running"])
        self.assertEqual([registry.chain("n"), registry.is_held("n"), registry.is_held("m")], [["n"], True, False])

    def test_because(self):
        registry = built("m n o", "request - m", "request m n", "request n o", "fail o")
        self.assertEqual(registry.fail("n", because="o"), ["n"])
        self.assertEqual(registry.fail("m", because="n"), ["m"])
        self.assertEqual([registry.chain("n"), registry.chain("m")], [["n", "o"], ["m", "n", "o"]])

    def test_because_of_a_module_that_fails_again(self):
        registry = built("m n", "request - m", "fail m", "release m", "request - n")
        registry.fail("n", because="m")
        for call in ("retry m", "request - m"):
            method, *words = call.split()
            getattr(registry, method)(*[None if word == "-" else word for word in words])
        registry.fail("m", because="n")
        self.assertEqual([registry.chain("m"), registry.chain("n")], [["m", "n", "m"], ["n", "m"]])

    def test_several_rounds(self):
        # d looked at c, c at b, b at a, all early; e only needs a.
        registry = built("a b c d e", "request - a", "request a d", "request d c", "request c b", "request b a",
                         "access b a", "access c b", "access d c", "request - e", "request e a")
        self.assertEqual(registry.fail("a"), ["a", "b", "c", "d"])
        self.assertEqual([registry.chain(name) for name in "abcd"],
                         [["a"], ["b", "a"], ["c", "b", "a"], ["d", "c", "b", "a"]])
        self.assertEqual([registry.state_of("e"), registry.early()], ["running", []])

    def test_a_module_fails_in_the_first_round_that_reaches_it(self):
        # c looked at a and at b, b at a: c fails in round 1.
        registry = built("a b c", "request - a", "request a b", "request a c", "request b c", "request b a",
                         "request c a", "request c b", "access b a", "access c a", "access c b")
        registry.fail("a")
        self.assertEqual([registry.chain("b"), registry.chain("c")], [["b", "a"], ["c", "a"]])

    def test_the_chain_takes_the_smallest_name_of_the_round_before(self):
        # x fails; n and m looked at it; z looked at both; a looked at z only.
        registry = built("a m n x z", "request - x", "request x n", "request x m", "request n x", "request m x",
                         "request n z", "request m z", "request z n", "request z m", "request z a", "request a z",
                         "access n x", "access m x", "access z n", "access z m", "access a z")
        self.assertEqual(registry.fail("x"), ["a", "m", "n", "x", "z"])
        self.assertEqual([registry.chain("z"), registry.chain("a")], [["z", "m", "x"], ["a", "z", "m", "x"]])

    def test_the_smallest_name_is_not_the_one_of_the_smallest_chain(self):
        # x fails; m and n looked at it, then z at m and c at n; w looked at z and c.
        registry = built("c m n w x z", "request - x", "request x w", "request w z", "request w c", "request z m",
                         "request c n", "request m x", "request n x", "access m x", "access n x", "access z m",
                         "access c n", "access w z", "access w c")
        self.assertEqual(registry.fail("x"), ["c", "m", "n", "w", "x", "z"])
        self.assertEqual([registry.chain("z"), registry.chain("w")], [["z", "m", "x"], ["w", "c", "n", "x"]])

    def test_the_smallest_name_of_an_earlier_round_does_not_count(self):
        # c looked at a of round 2 and at b of round 1: b counts.
        registry = built("a b c x", "request - x", "request x b", "request x a", "request x c", "request b x",
                         "request a b", "request b a", "request c a", "request a c", "request c b", "request b c",
                         "access b x", "access a b", "access c a", "access c b")
        registry.fail("x")
        self.assertEqual([registry.chain("a"), registry.chain("c")], [["a", "b", "x"], ["c", "b", "x"]])

    def test_running_modules_are_held_and_done_ones_are_not(self):
        registry = built("m n o", "request - m", "request m n", "request n m", "request n o", "request o n", "access n m",
                         "access o n", "finish o")
        self.assertEqual(registry.fail("m"), ["m", "n", "o"])
        self.assertEqual([registry.is_held(name) for name in "mno"], [True, True, False])
        # The needs of held modules stay.
        self.assertEqual(registry.needs().pairs(), [("m", "n"), ("n", "m"), ("n", "o")])
        registry.release("n")
        self.assertEqual(registry.needs().pairs(), [("m", "n")])
        registry.release(module="m")
        self.assertEqual(registry.needs().pairs(), [])

    def test_ready_modules_do_not_fail(self):
        registry = built("m n x", "request - m", "request m n", "request n x", "request x m", "access m n", "fail x",
                         "access n x", "finish n")
        self.assertEqual(registry.fail("m"), ["m"])
        self.assertEqual(registry.state_of("n"), "ready")

    def test_a_module_that_needs_itself(self):
        registry = built("m", "request - m", "request m m", "access m m")
        self.assertEqual([registry.fail("m"), registry.chain("m"), registry.early()], [["m"], ["m"], []])
        self.assertEqual(registry.needs().pairs(), [("m", "m")])
        registry.release("m")
        registry.retry("m")
        self.assertEqual(registry.state_of("m"), "new")

    def test_errors(self):
        registry = built("d f m n r", "request - m", "request - d", "request d m", "finish d", "request - f", "fail f",
                         "request - r", "finish r")
        states = {"d": "done", "f": "failed", "n": "new", "r": "ready"}
        for module, state in states.items():
            for because in (None, "f", "k", 7):
                self.check_error(registry, ("WrongState", module, state), registry.fail, module, because=because)
        self.check_unknown(registry, registry.fail, "m", because=...)
        for because, state in {**states, "m": "running"}.items():
            if because != "f":
                self.check_error(registry, ("WrongState", because, state), registry.fail, "m", because=because)
        for because in (None, "f", "k", 7):
            self.check_error(registry, ("UnknownModule", "k"), registry.fail, "k", because=because)
        self.assertEqual(registry.fail("m", because="f"), ["m"])

    def test_chain_of_other_states(self):
        registry = built("d m n r", "request - m", "request - d", "request d m", "finish d", "request - r", "finish r")
        for module, state in {"d": "done", "m": "running", "n": "new", "r": "ready"}.items():
            self.check_error(registry, ("WrongState", module, state), registry.chain, module)
            self.check_error(registry, ("WrongState", module, state), registry.release, module)
            self.check_error(registry, ("WrongState", module, state), registry.retry, module)
            self.assertIs(registry.is_held(module), False)

    def test_release_twice(self):
        registry = built("m", "request - m", "fail m")
        self.assertIsNone(registry.release("m"))
        self.check_error(registry, ("WrongState", "m", "failed"), registry.release, "m")
        self.assertEqual([registry.is_held(module="m"), registry.chain(module="m")], [False, ["m"]])

    def test_a_done_module_that_failed_cannot_be_released(self):
        registry = built("m n", "request - m", "request m n", "request n m", "access n m", "finish n", "fail m")
        self.check_error(registry, ("WrongState", "n", "failed"), registry.release, "n")


class Retrying(RegistryCase):
    def test_retry(self):
        registry = built("m n", "request - n", "fail n", "release n")
        self.assertIsNone(registry.retry("n"))
        self.assertEqual(registry.state_of("n"), "new")
        self.check_error(registry, ("WrongState", "n", "new"), registry.chain, "n")
        self.assertIs(registry == Registry(["m", "n"]), True)
        self.assertIs(registry.request(None, "n"), True)

    def test_held(self):
        registry = built("m n", "request - n", "fail n")
        self.check_error(registry, ("WrongState", "n", "failed"), registry.retry, "n")
        self.check_error(registry, ("WrongState", "n", "failed"), registry.retry, module="n")

    def test_held_comes_before_still_needed(self):
        registry = built("m n", "request - m", "request m n", "fail n")
        self.check_error(registry, ("WrongState", "n", "failed"), registry.retry, "n")
        registry.release("n")
        self.check_error(registry, ("StillNeeded", "n"), registry.retry, "n")
        registry.access("m", "n")
        registry.retry("n")
        self.assertEqual([registry.state_of("n"), registry.recorded().pairs()], ["new", [("m", "n")]])

    def test_needed_by_a_held_module(self):
        registry = built("m n", "request - m", "request m n", "fail n", "release n", "fail m")
        self.check_error(registry, ("StillNeeded", "n"), registry.retry, "n")
        registry.release("m")
        registry.retry("n")
        self.assertEqual([registry.state_of("n"), registry.chain("m")], ["new", ["m"]])

    def test_the_chains_of_others_stay(self):
        registry = built("m n", "request - n", "fail n", "release n", "request - m")
        registry.fail("m", because="n")
        registry.retry("n")
        self.assertEqual(registry.chain("m"), ["m", "n"])


class Unloading(RegistryCase):
    READY = ("request - a", "request a b", "request b c", "finish c", "finish b", "finish a", "request - z", "finish z")

    def test_all(self):
        registry = built("a b c z", *self.READY)
        registry.request(None, "z")
        self.assertEqual(registry.unload(), ["a", "b", "c", "z"])
        self.assertIs(registry == Registry(["a", "b", "c", "z"]), True)
        self.assertEqual(registry.recorded().pairs(), [("a", "b"), ("b", "c")])
        self.assertEqual(registry.unload(), [])

    def test_exports_and_needs_are_forgotten(self):
        registry = built("a b", "request - a", "request a b", "request b a", "access b a")
        registry.export("a", "x", 5)
        registry.export("b", "y", 6)
        registry.finish("a")
        registry.finish("b")
        self.assertEqual([registry.unload(), registry.exports("a"), registry.value_of("b", "y")], [["a", "b"], {}, -1])
        self.assertEqual(registry.needs().pairs(), [])
        self.assertIs(registry.request(None, "a"), True)
        self.assertEqual(registry.finish("a"), ["a"])

    def test_kept(self):
        for kept, unloaded in (((), "abcz"), (["a"], "z"), (["b"], "az"), (("c",), "abz"), (["z"], "abc"),
                               (["z", "b", "z", "b"], "a"), (("c", "c"), "abz"), (["a", "z"], "")):
            registry = built("a b c z", *self.READY)
            self.assertEqual(registry.unload(kept=kept), list(unloaded))
            self.assertEqual(registry.in_state("new"), list(unloaded))

    def test_kept_modules_in_any_states(self):
        registry = built("a b c f n z", *self.READY, "request - f", "fail f")
        self.assertEqual(registry.unload(kept=["n", "f", "n", "b"]), ["a", "z"])
        self.assertEqual([registry.state_of("f"), registry.state_of("n")], ["failed", "new"])

    def test_used_by_running_done_and_failed_modules(self):
        registry = built("a b c r z", *self.READY, "request - r", "request r b")
        self.assertEqual([registry.unload(), registry.in_state("ready")], [["a", "z"], ["b", "c"]])
        registry = built("a b c d r z", *self.READY, "request - r", "request - d", "request d r", "request d c",
                         "finish d")
        self.assertEqual([registry.unload(), registry.in_state("ready")], [["a", "b", "z"], ["c"]])
        registry = built("a b c f z", *self.READY, "request - f", "request f c", "fail f")
        self.assertEqual([registry.unload(), registry.in_state("ready")], [["a", "b", "z"], ["c"]])
        registry.release("f")
        self.assertEqual(registry.unload(), ["c"])

    def test_a_ready_module_alone_does_not_keep(self):
        registry = built("a b c z", *self.READY)
        self.assertEqual(registry.unload(kept=["c"]), ["a", "b", "z"])
        self.assertEqual(registry.needs().pairs(), [])

    def test_other_values(self):
        registry = built("a b c z", *self.READY)
        values = [value for value in NO_NUMBERS_NO_STRINGS if not isinstance(value, list)]
        for value in values + [0, 1, "", "a", "ab", {"a": 1}, {"a"}, [None], ["k"], ("a", "k"), ["a", 7], [["a"]]]:
            self.check_error(registry, ("InvalidModules",), registry.unload, kept=value)
        for value in NO_MODULES:
            for kept in ([value], (value,), ["a", value], (value, "a")):
                self.check_error(registry, ("InvalidModules",), registry.unload, kept=kept)

    def test_the_argument_is_unchanged(self):
        registry = built("a b c z", *self.READY)
        kept = ["z", "a", "z"]
        registry.unload(kept=kept)
        self.assertEqual(kept, ["z", "a", "z"])

    def test_kept_is_passed_by_name(self):
        with self.assertRaises(TypeError):
            Registry(["m"]).unload(["m"])
        with self.assertRaises(TypeError):
            built("m n", "request - m").fail("m", None)


class Equality(RegistryCase):
    def test_each_difference(self):
        def early(registry):
            for source, target in (("m", "n"), ("n", "m")):
                registry.request(source, target)
            registry.access("n", "m")

        def failed(registry, because):
            registry.request(None, "n")
            registry.fail("n")
            registry.fail("m", because=because)

        first = "request - m"
        variants = [
            Registry(["m", "n"]),
            Registry(["m", "o"]),
            Registry(["m"]),
            built("m n", first),
            built("m n", "request - n"),
            built("m n", first, "finish m"),
            built("m n", first, "request m m"),
            built("m n", first, "request m n"),
            built("m n", first, "request - n"),
            built("m n", first, "request m n", "request n m"),
            built("m n", first, "fail m"),
            built("m n", first, "fail m", "release m"),
            *[built("m n", first) for count in range(6)],
        ]
        variants[-6].export("m", "x", 1)
        variants[-5].export("m", "x", 2)
        variants[-4].export("m", "y", 1)
        early(variants[-3])
        failed(variants[-2], None)
        failed(variants[-1], "n")
        for one, other in itertools.product(range(len(variants)), repeat=2):
            self.assertIs(variants[one] == variants[other], one == other, msg=f"{one} {other}")
            self.assertIs(variants[one] != variants[other], one != other)

    def test_needs_that_were_ever_recorded_are_not_compared(self):
        one = built("m n", "request - m", "request m n", "fail n", "access m n")
        other = built("m n", "request - m", "request - n", "fail n")
        self.assertNotEqual(one.recorded(), other.recorded())
        self.assertIs(one == other, True)

    def test_the_order_of_names_and_calls(self):
        self.assertEqual(Registry(["n", "m"]), Registry(("m", "n")))
        one, other = built("m n", "request - n", "request - m"), built("m n", "request - m", "request - n")
        for registry, names in ((one, "xy"), (other, "yx")):
            for name in names:
                registry.export("m", name, 3)
        self.assertIs(one == other, True)

    def test_other_values(self):
        for registry in (Registry(["m"]), built("m", "request - m")):
            for value in NO_NUMBERS_NO_STRINGS + ["m", ["m"], {"m": "new"}, Needs(), 0]:
                self.assertIs(registry == value, False)
                self.assertIs(registry != value, True)


class Copies(RegistryCase):
    def rich(self):
        registry = built("a f g m n", "request - m", "request m n", "request n m", "access n m", "request - f", "fail f",
                         "request - g")
        registry.export("m", "x", 5)
        registry.fail("g", because="f")
        return registry

    def changes(self):
        return [
            lambda registry: registry.request("m", "a"),
            lambda registry: registry.access("m", "n"),
            lambda registry: registry.export("m", "x", 6),
            lambda registry: registry.finish("n"),
            lambda registry: registry.fail("m"),
            lambda registry: registry.release("f"),
        ]

    def test_clone(self):
        registry = self.rich()
        other = registry.clone()
        self.assertIs(type(other), Registry)
        self.assertIsNot(other, registry)
        self.assertIs(other == registry, True)
        self.assertEqual(shown(other), shown(registry))

    def test_independent_in_both_directions(self):
        for change in self.changes():
            for first, second in ((0, 1), (1, 0)):
                registry = self.rich()
                pair = [registry, registry.clone()]
                before = shown(pair[second])
                change(pair[first])
                self.assertEqual(shown(pair[second]), before)
                self.assertNotEqual(shown(pair[first]), before)
                self.assertIs(pair[0] == pair[1], False)
                change(pair[second])
                self.assertEqual(shown(pair[0]), shown(pair[1]))
                self.assertIs(pair[0] == pair[1], True)

    def test_returned_values_are_new(self):
        registry = self.rich()
        before = shown(registry)
        registry.names().clear()
        registry.in_state("running").append("z")
        registry.exports("m")["y"] = 9
        registry.chain("g").append("z")
        registry.early().clear()
        registry.needs().record("z", "z")
        registry.recorded().delete_all("m")
        self.assertEqual(shown(registry), before)
        for method, arguments in (("names", ()), ("in_state", ("new",)), ("exports", ("m",)), ("chain", ("g",)),
                                  ("early", ()), ("needs", ()), ("recorded", ())):
            function = getattr(registry, method)
            self.assertIsNot(function(*arguments), function(*arguments))

    def test_the_chains_of_two_modules_are_two_lists(self):
        registry = built("m n", "request - m", "request - n", "fail m")
        registry.fail("n", because="m")
        registry.chain("m").append("x")
        self.assertEqual([registry.chain("m"), registry.chain("n")], [["m"], ["n", "m"]])

    def test_lists_that_were_returned_by_changes(self):
        registry = built("m n", "request - m", "request m n", "request n m", "access n m")
        registry.fail("m").clear()
        self.assertEqual(registry.in_state("failed"), ["m", "n"])
        registry = built("m", "request - m")
        registry.finish("m").clear()
        registry.unload(kept=["m"]).append("m")
        self.assertEqual(registry.in_state("ready"), ["m"])

    def test_registries_are_independent(self):
        one, other = Registry(["m"]), Registry(["m"])
        one.request(None, "m")
        one.export("m", "x", 1)
        self.assertEqual(shown(other), shown(Registry(["m"])))


class AgainstTheModel(RegistryCase):
    """Random calls, of which many raise errors, on a registry and on the model."""

    NAMES = ["a", "b", "c", "d", "e"]
    METHODS = ["request"] * 12 + ["access"] * 16 + ["release", "retry"] * 3
    METHODS += ["answer", "export", "finish", "fail", "unload"]

    def drawn(self, draw):
        """A call: the name of a method, arguments, and arguments by name."""
        method = draw.choice(self.METHODS)
        module, other = draw.choice(self.NAMES), draw.choice(self.NAMES)
        if method in ("request", "access", "answer"):
            return method, [draw.choice([None, module, module, module]), draw.choice([other] * 20 + ["x", None])], {}
        if method == "export":
            return method, [module, draw.choice(["x", "y"]), draw.randrange(-2, 3)], {}
        if method == "unload":
            return method, [], {"kept": draw.choice([(), [module], (module, other)])}
        if method == "fail":
            return method, [module], {"because": draw.choice([None, None, other])}
        return method, [module], {}

    def wished(self, model, method, arguments, named):
        try:
            return "returned", getattr(model, method)(*arguments, **named)
        except Refused as refused:
            return refused.args

    def check_walk(self, draw, length, counts):
        registry, model = Registry(self.NAMES), RegistryModel(self.NAMES)
        for count in range(length):
            method, arguments, named = self.drawn(draw)
            expected = self.wished(model, method, arguments, named)
            found = tried(getattr(registry, method), *arguments, **named)
            self.assertEqual(found, expected)
            self.assertIs(type(found[-1]), type(expected[-1]))
            self.assertEqual(shown(registry), model.shown())
            counts[method, found[0]] = counts.get((method, found[0]), 0) + 1
            if method == "fail" and found[0] == "returned" and len(found[1]) > 1:
                counts["fail", "several"] = counts.get(("fail", "several"), 0) + 1
            if method == "finish" and found[0] == "returned" and len(found[1]) > 1:
                counts["finish", "several"] = counts.get(("finish", "several"), 0) + 1

    def test_random_walks(self):
        draw = random.Random(4)
        counts = {}
        for walk in range(250):
            self.check_walk(draw, 150, counts)
        returned = ["request", "access", "answer", "finish", "fail", "release", "retry", "export", "unload"]
        wanted = [(method, "returned") for method in returned]
        wanted += [("access", "MustWait"), ("retry", "StillNeeded"), ("fail", "several"), ("finish", "several")]
        for key in wanted:
            self.assertGreater(counts.get(key, 0), 5, msg=key)


if __name__ == "__main__":
    unittest.main()
