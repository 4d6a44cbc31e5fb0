"""Plain runs and outcomes [2, 17, 18]."""

import copy
import inspect
import random
import unittest

from cycleready.errors import Cyclic
from cycleready.library import Library
from cycleready.plain import plain_order, plain_run
from drawn import drawn_library, drawn_program
from plain_model import Cycle, PlainModel
from values import NO_NAMES, NO_NUMBERS_NO_STRINGS, NO_STEPS, Number, Word, are_same, tried

EXPORTING = {"m": [("set", "a", 5), ("export", "x", "a")]}


def main_of(programs, *steps):
    """What the plain run of one main program tells about it."""
    (name, status, variables), = plain_run(Library(programs), {"t": list(steps)})[1]
    return status, variables


class Runs(unittest.TestCase):
    def test_no_main_programs(self):
        self.assertEqual(plain_run(Library({"m": [("fail",)]}), {}), ((), ()))
        self.assertEqual(plain_order(Library({"m": [("fail",)]}), {}), [])

    def test_an_empty_program(self):
        self.assertEqual(plain_run(Library({"m": []}), {"t": []}), ((), (("t", "ended", (0, 0, 0, 0)),)))

    def test_kinds_of_values(self):
        found = plain_run(Library(EXPORTING), {"t": [("need", "m")]})
        self.assertEqual(repr(found), "((('m', 'ready', (('x', 5),)),), (('t', 'ended', (0, 0, 0, 0)),))")

    def test_plain_steps(self):
        steps = [("set", "a", 3), ("skip", "a", 1), ("fail",), ("set", "d", -4), ("add", "d", "a"), ("skip", "d", 1),
                 ("set", "b", 9)]
        self.assertEqual(main_of({"m": []}, *steps), ("ended", (3, 9, 0, -1)))

    def test_a_module_that_nobody_needs_stays_new(self):
        found = plain_run(Library({"m": [], "n": [("fail",)]}), {"t": [("need", "m")]})
        self.assertEqual(found[0], (("m", "ready", ()),))

    def test_an_initializer_runs_once(self):
        programs = {"m": [("add", "a", "b"), ("export", "x", "a")], "n": [("need", "m")], "o": [("need", "m")]}
        mains = {"t": [("need", "o"), ("need", "n"), ("need", "m"), ("need", "m")], "s": [("need", "n")]}
        self.assertEqual(plain_order(Library(programs), mains), ["m", "o", "n"])

    def test_the_last_export_counts_and_exports_are_sorted(self):
        steps = [("export", "y", "a"), ("set", "a", 2), ("export", "x", "a"), ("set", "a", 3), ("export", "y", "a")]
        found = plain_run(Library({"m": steps}), {"t": [("need", "m")]})
        self.assertEqual(found[0], (("m", "ready", (("x", 2), ("y", 3))),))

    def test_order(self):
        programs = {"a": [("need", "c"), ("need", "b")], "b": [("try", "d", "a")], "c": [], "d": [("fail",)]}
        self.assertEqual(plain_order(Library(programs), {"t": [("need", "a")]}), ["c", "d", "b", "a"])

    def test_a_deep_library(self):
        names = [first + second for first in "abcd" for second in "abcdefghij"]
        programs = {name: [("need", other), ("read", "a", other, "x"), ("set", "b", 1), ("add", "a", "b"),
                           ("export", "x", "a")] for name, other in zip(names, names[1:])}
        programs[names[-1]] = [("set", "a", 1), ("export", "x", "a")]
        status, variables = main_of(programs, ("need", "aa"), ("read", "d", "aa", "x"))
        self.assertEqual([status, variables], ["ended", (0, 0, 0, 40)])
        self.assertEqual(plain_order(Library(programs), {"t": [("need", "aa")]}), names[::-1])


class Failures(unittest.TestCase):
    def test_a_main_program_that_fails(self):
        self.assertEqual(main_of({"m": []}, ("set", "a", 1), ("fail",), ("set", "a", 2)), ("failed", (1, 0, 0, 0)))

    def test_a_need_of_a_failed_module(self):
        programs = {"f": [("fail",)], "g": [("need", "f"), ("fail",)]}
        self.assertEqual(main_of(programs, ("set", "b", 1), ("need", "g"), ("set", "b", 2)), ("failed", (0, 1, 0, 0)))
        found = plain_run(Library(programs), {"t": [("need", "g")]})
        self.assertEqual(found[0], (("f", "failed", ()), ("g", "failed", ())))

    def test_try(self):
        programs = {"f": [("fail",)], "m": []}
        steps = [("set", "a", 7), ("try", "f", "a"), ("try", "m", "b"), ("try", "f", "c"), ("try", "m", "d")]
        self.assertEqual(main_of(programs, *steps), ("ended", (0, 1, 0, 1)))

    def test_exports_of_a_failed_module_are_forgotten(self):
        programs = {"f": [("set", "a", 4), ("export", "x", "a"), ("fail",)]}
        found = plain_run(Library(programs), {"t": [("try", "f", "a"), ("read", "b", "f", "x")]})
        self.assertEqual(found, ((("f", "failed", ()),), (("t", "ended", (0, -1, 0, 0)),)))

    def test_a_failed_module_does_not_run_again(self):
        programs = {"f": [("need", "m"), ("fail",)], "m": []}
        mains = {"t": [("try", "f", "a"), ("try", "f", "b")], "s": [("need", "f")]}
        self.assertEqual(plain_order(Library(programs), mains), ["m", "f"])
        self.assertEqual([row[1] for row in plain_run(Library(programs), mains)[1]], ["failed", "ended"])

    def test_the_program_after_a_failed_one_runs(self):
        found = plain_run(Library(EXPORTING), {"t": [("fail",)], "s": [("need", "m"), ("read", "a", "m", "x")]})
        self.assertEqual(found[1], (("s", "ended", (5, 0, 0, 0)), ("t", "failed", (0, 0, 0, 0))))


class Reads(unittest.TestCase):
    def test_a_module_that_was_needed(self):
        self.assertEqual(main_of(EXPORTING, ("need", "m"), ("read", "c", "m", "x")), ("ended", (0, 0, 5, 0)))
        self.assertEqual(main_of(EXPORTING, ("try", "m", "a"), ("read", "c", "m", "x")), ("ended", (1, 0, 5, 0)))

    def test_a_module_that_was_not_needed(self):
        self.assertEqual(main_of(EXPORTING, ("read", "c", "m", "x")), ("ended", (0, 0, -1, 0)))
        self.assertEqual(plain_run(Library(EXPORTING), {"t": [("read", "c", "m", "x")]})[0], ())
        self.assertEqual(main_of(EXPORTING, ("read", "c", "m", "x"), ("need", "m"), ("read", "b", "m", "x")),
                         ("ended", (0, 5, -1, 0)))

    def test_a_module_that_only_another_program_needed(self):
        programs = {**EXPORTING, "n": [("need", "m")], "o": [("read", "a", "m", "x"), ("export", "y", "a")]}
        steps = [("need", "n"), ("need", "o"), ("read", "a", "m", "x"), ("read", "b", "o", "y")]
        self.assertEqual(main_of(programs, *steps), ("ended", (-1, -1, 0, 0)))
        mains = {"s": [("need", "m")], "t": [("read", "a", "m", "x")]}
        self.assertEqual(plain_run(Library(EXPORTING), mains)[1][1], ("t", "ended", (-1, 0, 0, 0)))

    def test_its_own_module(self):
        programs = {"m": [("read", "b", "m", "x"), ("set", "a", 5), ("export", "x", "a"), ("read", "c", "m", "x"),
                          ("export", "y", "b"), ("export", "z", "c")]}
        found = plain_run(Library(programs), {"t": [("need", "m")]})
        self.assertEqual(found[0], (("m", "ready", (("x", 5), ("y", -1), ("z", 5))),))

    def test_nothing_under_this_name(self):
        self.assertEqual(main_of(EXPORTING, ("need", "m"), ("read", "c", "m", "y")), ("ended", (0, 0, -1, 0)))

    def test_a_step_that_was_skipped_is_no_need(self):
        steps = [("set", "a", 1), ("skip", "a", 1), ("need", "m"), ("read", "c", "m", "x")]
        self.assertEqual(main_of(EXPORTING, *steps), ("ended", (1, 0, -1, 0)))


class Cycles(unittest.TestCase):
    def check(self, programs, mains, cycle):
        for function in (plain_run, plain_order):
            with self.assertRaises(Cyclic) as caught:
                function(Library(programs), mains)
            self.assertEqual(caught.exception.cycle, cycle)
            self.assertIs(type(caught.exception.cycle), list)

    def test_a_module_that_needs_itself(self):
        for step in (("need", "m"), ("try", "m", "a")):
            self.check({"m": [step]}, {"t": [("try", "m", "a")]}, ["m"])

    def test_the_order_of_the_cycle(self):
        programs = {"a": [("need", "z")], "b": [("need", "a")], "z": [("need", "c")], "c": [("need", "b")]}
        self.check(programs, {"t": [("need", "c")]}, ["c", "b", "a", "z"])
        self.check(programs, {"t": [("need", "z")]}, ["z", "c", "b", "a"])

    def test_modules_before_the_cycle_are_not_in_it(self):
        programs = {"e": [("need", "d")], "d": [("try", "x", "a")], "x": [("need", "b")], "b": [("try", "d", "c")]}
        self.check(programs, {"t": [("need", "e")]}, ["d", "x", "b"])

    def test_modules_that_have_ended_are_not_in_it(self):
        programs = {"p": [("need", "m"), ("try", "f", "a"), ("need", "q")], "q": [("need", "m"), ("need", "p")],
                    "m": [], "f": [("fail",)]}
        self.check(programs, {"t": [("need", "p")]}, ["p", "q"])

    def test_in_a_later_main_program(self):
        programs = {"m": [("need", "m")], "n": []}
        self.check(programs, {"t": [("need", "n")], "s": [("need", "m")]}, ["m"])

    def test_cycles_that_are_not_reached(self):
        programs = {"p": [("fail",), ("need", "q")], "q": [("need", "p")]}
        found = plain_run(Library(programs), {"t": [("try", "q", "a")]})
        self.assertEqual(found, ((("p", "failed", ()), ("q", "failed", ())), (("t", "ended", (0, 0, 0, 0)),)))
        self.assertEqual(plain_order(Library(programs), {"t": [("fail",), ("need", "q")]}), [])

    def test_reading_itself_or_another_is_no_cycle(self):
        programs = {"p": [("read", "a", "q", "x"), ("read", "b", "p", "x"), ("need", "q")], "q": [("read", "a", "p", "x")]}
        self.assertEqual(plain_order(Library(programs), {"t": [("need", "p")]}), ["q", "p"])


class OrderOfTheDict(unittest.TestCase):
    PROGRAMS = {"p": [("try", "q", "a")], "q": [], "r": [("need", "q")]}

    def test_orders(self):
        mains = {"a": [("need", "r")], "b": [("need", "p")]}
        self.assertEqual(plain_order(Library(self.PROGRAMS), mains), ["q", "r", "p"])
        mains = {"b": [("need", "p")], "a": [("need", "r")]}
        self.assertEqual(plain_order(Library(self.PROGRAMS), mains), ["q", "p", "r"])
        self.assertEqual([row[0] for row in plain_run(Library(self.PROGRAMS), mains)[1]], ["a", "b"])

    def test_the_first_cycle_in_the_order_of_the_dict(self):
        library = Library({"m": [("need", "m")], "n": [("need", "n")]})
        for names in (["m", "n"], ["n", "m"]):
            mains = {name: [("need", name)] for name in names}
            self.assertEqual(tried(plain_run, library, mains), ("Cyclic", [names[0]]))

    def test_eight_programs(self):
        mains = {name: [("set", "a", at)] for at, name in enumerate("hgfedcba")}
        found = plain_run(Library({"m": []}), mains)[1]
        self.assertEqual(found, tuple((name, "ended", (7 - at, 0, 0, 0)) for at, name in enumerate("abcdefgh")))


class WrongMains(unittest.TestCase):
    LIBRARY = Library({"m": [], "n": [("need", "n")]})

    def check(self, mains, name, position):
        for function in (plain_run, plain_order):
            found = tried(function, self.LIBRARY, mains)
            self.assertEqual(found[0], "InvalidMains")
            self.assertTrue(are_same(found[1:], (name, position)))

    def test_values_that_are_not_dicts(self):
        for value in NO_NUMBERS_NO_STRINGS + [0, "", "t", (), [("t", [])], self.LIBRARY]:
            if not isinstance(value, dict):
                self.check(value, None, -1)

    def test_nine_entries(self):
        self.check({name: [] for name in "abcdefghi"}, None, -1)
        self.check({name: None for name in range(9)}, None, -1)

    def test_keys_that_are_not_names(self):
        for key in NO_NAMES:
            if not getattr(type(key), "__hash__", None) or isinstance(key, tuple) and key and not isinstance(key[0], str):
                continue
            self.check({key: []}, key, -1)
            self.check({"t": [], key: None, "u": None}, key, -1)

    def test_values_that_are_not_lists(self):
        for value in NO_NUMBERS_NO_STRINGS + [0, "", "fail", (), (("fail",),), [("fail",)] * 31]:
            if not isinstance(value, list) or len(value) > 30:
                self.check({"t": value}, "t", -1)
                self.check({"s": [], "t": value, "u": value}, "t", -1)

    def test_elements_that_are_not_steps(self):
        for value in NO_STEPS + [("set", "a", True), ("skip", "a", 0), ("need", "M"), ["fail"]]:
            self.check({"t": [value]}, "t", 0)
            self.check({"s": [], "t": [("fail",), ("need", "m"), value, None]}, "t", 2)

    def test_exports(self):
        self.check({"t": [("need", "m"), ("export", "x", "a")]}, "t", 1)

    def test_skips_of_too_many_steps(self):
        self.check({"t": [("fail",), ("skip", "a", 2), ("fail",)]}, "t", 1)
        self.check({"t": [("skip", "a", 1)]}, "t", 0)

    def test_modules_that_are_not_in_the_library(self):
        for step in (("need", "k"), ("try", "k", "a"), ("read", "a", "k", "m")):
            self.check({"t": [("fail",), step]}, "t", 1)

    def test_the_first_key_decides(self):
        self.check({"z": [("fail",), ("need", "k")], "a": None, 7: []}, "z", 1)
        self.check({7: [], "a": None}, 7, -1)

    def test_mains_come_before_cycles(self):
        self.check({"s": [("need", "n")], "t": [("export", "x", "a")]}, "t", 0)

    def test_thirty_steps(self):
        found = plain_run(self.LIBRARY, {"t": [("skip", "a", 29)] + [("set", "a", 1)] * 29})
        self.assertEqual(found[1], (("t", "ended", (1, 0, 0, 0)),))


class Arguments(unittest.TestCase):
    def test_by_name(self):
        library, mains = Library(EXPORTING), {"t": [("need", "m")]}
        for function in (plain_run, plain_order):
            self.assertEqual(list(inspect.signature(function).parameters), ["library", "mains"])
            self.assertEqual(function(library=library, mains=mains), function(library, mains))

    def test_nothing_is_changed(self):
        library, mains = Library(EXPORTING), {"t": [("need", "m"), ("read", "a", "m", "x")], "s": [("try", "m", "b")]}
        before = copy.deepcopy(mains)
        plain_run(library, mains)
        plain_order(library, mains)
        self.assertEqual([mains, list(mains)], [before, ["t", "s"]])
        self.assertEqual(library, Library(EXPORTING))

    def test_repeated_runs(self):
        library, mains = Library(EXPORTING), {"t": [("need", "m")]}
        self.assertEqual(plain_run(library, mains), plain_run(library, mains))
        first = plain_order(library, mains)
        first.clear()
        self.assertEqual(plain_order(library, mains), ["m"])

    def test_items_that_show_themselves_in_another_way(self):
        found = plain_run(Library({"m": []}), {Word.OTHER: [(Word.NEED, Word.MODULE), ("set", "a", Number.FEW)]})
        self.assertEqual(repr(found), "((('m', 'ready', ()),), (('n', 'ended', (-3, 0, 0, 0)),))")


class AgainstTheModel(unittest.TestCase):
    def check(self, programs, mains):
        """Compare with the model, and return how the run ended."""
        model = PlainModel(programs)
        try:
            expected = model.run(mains)
        except Cycle as cycle:
            for function in (plain_run, plain_order):
                self.assertEqual(tried(function, Library(programs), mains), ("Cyclic", cycle.args[0]))
            return "cyclic"
        self.assertEqual(plain_run(Library(programs), mains), expected)
        self.assertEqual(plain_order(Library(programs), mains), model.order)
        return "failed" if "failed" in model.state.values() else "ready"

    def test_random_runs(self):
        draw = random.Random(17)
        ends = []
        for count in range(1500):
            programs = drawn_library(draw, draw.randint(1, 5), 6, is_acyclic=draw.random() < 0.5)
            mains = {name: drawn_program(draw, sorted(programs), 6, is_main=True) for name in draw.sample("uvwxyz", 3)}
            ends.append(self.check(programs, mains))
        for end in ("cyclic", "failed", "ready"):
            self.assertGreater(ends.count(end), 100)


if __name__ == "__main__":
    unittest.main()
