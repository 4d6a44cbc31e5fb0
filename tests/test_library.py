"""Libraries: which dicts they are, and what they tell [2, 5, 6, 7]."""

import collections
import copy
import inspect
import itertools
import unittest

from cycleready.errors import InvalidLibrary, UnknownModule
from cycleready.library import MOST_MODULES, Library
from values import NO_NAMES, NO_NUMBERS_NO_STRINGS, NO_STEPS, Agrees, Number, Refuses, Word, is_same

FORTY = [first + second for first in "dcba" for second in "jihgfedcba"]
EACH_KIND = [
    ("set", "a", -5),
    ("add", "a", "b"),
    ("skip", "a", 5),
    ("export", "x", "a"),
    ("read", "a", "m", "x"),
    ("need", "m"),
    ("try", "n", "a"),
    ("fail",),
]
# What is wrong with one entry of a dict, and the module and the position in the error.
PROBLEMS = [
    ("M", [], "M", -1),
    ("m", ("fail",), "m", -1),
    ("n", [("fail",)] * 31, "n", -1),
    ("o", [("fail",), ["fail"]], "o", 1),
    ("p", [("skip", "a", 1)], "p", 0),
    ("q", [("fail",), ("fail",), ("need", "absent")], "q", 2),
]


def step_like(program):
    """A program as lists of the classes of its steps and of their items."""
    return [(type(step), [type(item) for item in step]) for step in program]


class LibraryCase(unittest.TestCase):
    def check_refused(self, modules, module, position, made=Library):
        with self.assertRaises(InvalidLibrary) as caught:
            made(modules)
        self.assertTrue(is_same(caught.exception.module, module))
        self.assertTrue(is_same(caught.exception.position, position), msg=f"{caught.exception.position}")

    def check_pairs_refused(self, pairs, module, position):
        self.check_refused(pairs, module, position, made=lambda pairs: Library.of(*pairs))


class Sizes(LibraryCase):
    def test_most_modules(self):
        self.assertEqual(MOST_MODULES, 40)
        self.assertIs(type(MOST_MODULES), int)

    def test_numbers_of_entries(self):
        for count in (1, 2, 39, 40):
            library = Library({name: [] for name in FORTY[:count]})
            self.assertEqual(len(library), count)
            self.assertEqual(library.modules(), sorted(FORTY[:count]))

    def test_no_entry_and_too_many(self):
        self.check_refused({}, None, -1)
        self.check_refused({name: [] for name in FORTY + ["m"]}, None, -1)
        self.check_refused({name: None for name in FORTY + [7]}, None, -1)
        self.check_refused({number: [] for number in range(50)}, None, -1)

    def test_values_that_are_not_dicts(self):
        values = [value for value in NO_NUMBERS_NO_STRINGS if not isinstance(value, dict)]
        values += [0, 1, "", "m", (), ("m", []), [("m", [])], [["m", []]], Library({"m": []})]
        for value in values:
            self.check_refused(value, None, -1)

    def test_numbers_of_steps(self):
        for count in (0, 1, 29, 30):
            self.assertEqual(Library({"m": [("fail",)] * count}).initializer("m"), [("fail",)] * count)
        self.check_refused({"m": [("fail",)] * 31}, "m", -1)
        self.check_refused({"m": [None] * 31}, "m", -1)

    def test_by_name(self):
        self.assertEqual(Library(modules={"m": []}).modules(), ["m"])
        self.assertEqual(list(inspect.signature(Library).parameters), ["modules"])


class Problems(LibraryCase):
    def test_keys_that_are_not_names(self):
        for key in ("", "M", "m1", "m ", "abcdefghi", "m\n", 0, 1, -1, None, True, False, b"m", (), ("m",), frozenset("m")):
            self.check_refused({key: []}, key, -1)
            self.check_refused({"m": [], key: []}, key, -1)
            self.check_refused({key: [None], "m": [None]}, key, -1)

    def test_a_key_that_is_no_name_makes_no_module_known(self):
        self.check_refused({"m": [("need", "k")], "K": []}, "m", 0)

    def test_values_that_are_not_lists(self):
        values = [value for value in NO_NUMBERS_NO_STRINGS if not isinstance(value, list)]
        values += [0, "", "fail", (), ("fail",), (("fail",),)]
        for value in values:
            self.check_refused({"m": value}, "m", -1)
            self.check_refused({"k": [], "m": value}, "m", -1)

    def test_elements_that_are_not_steps(self):
        for value in NO_STEPS + [("set", "a", True), ("skip", "a", 0), ("need", "M"), ["fail"], ("fail", "m")]:
            self.check_refused({"m": [value]}, "m", 0)
            self.check_refused({"k": [("fail",)], "m": [("need", "k"), value, ("need", "x")]}, "m", 1)

    def test_skips(self):
        self.check_refused({"m": [("skip", "a", 1)]}, "m", 0)
        self.check_refused({"m": [("fail",), ("skip", "a", 2), ("fail",)]}, "m", 1)
        self.assertEqual(len(Library({"m": [("fail",), ("skip", "a", 1), ("fail",)]})), 1)
        self.assertEqual(len(Library({"m": [("skip", "a", 29)] + [("fail",)] * 29})), 1)
        self.check_refused({"m": [("skip", "a", 30)] + [("fail",)] * 29}, "m", 0)

    def test_modules_that_are_not_in_the_library(self):
        for step in (("need", "k"), ("try", "k", "a"), ("read", "a", "k", "m")):
            self.check_refused({"m": [step]}, "m", 0)
            self.check_refused({"m": [("fail",), ("need", "m"), step, step]}, "m", 2)
            self.assertEqual(len(Library({"m": [step], "k": []})), 2)
            self.assertEqual(len(Library({"k": [], "m": [step]})), 2)

    def test_its_own_module(self):
        for step in (("need", "m"), ("try", "m", "a"), ("read", "a", "m", "x")):
            self.assertEqual(Library({"m": [step]}).initializer("m"), [step])
            self.check_refused({"n": [step]}, "n", 0)

    def test_other_words_are_not_modules(self):
        library = Library({"m": [("export", "x", "a"), ("read", "a", "m", "y"), ("set", "b", 1)]})
        self.assertEqual(library.modules(), ["m"])

    def test_a_module_behind_a_skip_counts(self):
        self.check_refused({"m": [("set", "a", 1), ("skip", "a", 1), ("need", "k")]}, "m", 2)

    def test_the_first_element_with_any_problem(self):
        self.check_refused({"m": [("need", "k"), None]}, "m", 0)
        self.check_refused({"m": [None, ("need", "k")]}, "m", 0)
        self.check_refused({"m": [("fail",), ("skip", "a", 9), ("need", "k"), None]}, "m", 1)
        self.check_refused({"m": [("fail",), ("need", "k"), ("skip", "a", 9), None]}, "m", 1)

    def test_the_first_key_in_each_order(self):
        for count in (1, 2, 3):
            for problems in itertools.permutations(PROBLEMS, count):
                first = problems[0]
                modules = {key: value for key, value, module, position in problems}
                self.check_refused(modules, first[2], first[3])
                self.check_refused({"aa": [("need", "zz")], "zz": [], **modules}, first[2], first[3])
                self.check_pairs_refused(list(modules.items()), first[2], first[3])

    def test_a_module_with_a_problem_is_in_the_library_all_the_same(self):
        self.check_refused({"m": [("need", "k")], "k": None}, "k", -1)
        self.check_refused({"m": [("need", "k")], "k": [("need", "m"), ("need", "j")]}, "k", 1)

    def test_exports_are_allowed(self):
        self.assertEqual(len(Library({"m": [("export", "x", "a")]})), 1)

    def test_a_refused_argument_is_unchanged(self):
        modules = {"n": [("need", "m")], "m": [("fail",), ["fail"]]}
        before = copy.deepcopy(modules)
        self.check_refused(modules, "m", 1)
        self.assertEqual(modules, before)
        self.assertEqual(list(modules), ["n", "m"])


class Questions(LibraryCase):
    def setUp(self):
        self.library = Library({"n": EACH_KIND, "m": [("fail",)], "ab": []})

    def test_modules(self):
        self.assertEqual(self.library.modules(), ["ab", "m", "n"])

    def test_has_module(self):
        for name in ("ab", "m", "n"):
            self.assertIs(self.library.has_module(name), True)
            self.assertIs(self.library.has_module(value=name), True)
        for value in ("a", "b", "k", "abc", "need") + tuple(NO_NAMES):
            self.assertIs(self.library.has_module(value), False)

    def test_initializer(self):
        self.assertEqual(self.library.initializer("n"), EACH_KIND)
        self.assertEqual(self.library.initializer("m"), [("fail",)])
        self.assertEqual(self.library.initializer(module="ab"), [])

    def test_unknown_modules(self):
        for at, value in enumerate(["a", "k", "abc"] + NO_NAMES):
            with self.assertRaises(UnknownModule) as caught:
                self.library.initializer(value)
            self.assertTrue(is_same(caught.exception.value, value), msg=f"value {at}")

    def test_len(self):
        self.assertEqual(len(self.library), 3)
        self.assertEqual(len(Library({"m": []})), 1)

    def test_repr(self):
        self.assertEqual(repr(Library({"m": []})), "Library({'m': []})")
        library = Library({"n": [("need", "m"), ("set", "a", -7)], "ab": [("fail",)], "m": []})
        self.assertEqual(repr(library), "Library({'ab': [('fail',)], 'm': [], 'n': [('need', 'm'), ('set', 'a', -7)]})")
        self.assertEqual(eval(repr(self.library)), self.library)

    def test_strings_and_integers_that_show_themselves_in_another_way(self):
        library = Library({Word.MODULE: [(Word.NEED, Word.MODULE), ("set", "a", Number.FEW)]})
        self.assertEqual(repr(library), "Library({'m': [('need', 'm'), ('set', 'a', -3)]})")
        self.assertIs(library.has_module(Word.MODULE), True)
        self.assertEqual(library.initializer(Word.MODULE), [("need", "m"), ("set", "a", -3)])
        self.assertEqual([type(name) for name in library.modules()], [str])

    def test_other_kinds_of_tuples_and_dicts(self):
        pair = collections.namedtuple("pair", "kind module")
        modules = collections.OrderedDict([("n", [pair("need", "m")]), ("m", [])])
        library = Library(modules)
        self.assertEqual(repr(library), "Library({'m': [], 'n': [('need', 'm')]})")
        self.assertEqual(step_like(library.initializer("n")), [(tuple, [str, str])])


class Equality(unittest.TestCase):
    def test_in_each_order(self):
        entries = [("m", [("need", "n")]), ("n", []), ("ab", EACH_KIND)]
        library = Library(dict(entries))
        for order in itertools.permutations(entries):
            other = Library(dict(order))
            self.assertIs(library == other, True)
            self.assertIs(library != other, False)
            self.assertEqual(repr(library), repr(other))

    def test_different_libraries(self):
        libraries = [
            Library({"m": []}),
            Library({"n": []}),
            Library({"m": [], "n": []}),
            Library({"m": [("fail",)]}),
            Library({"m": [("fail",), ("fail",)]}),
            Library({"m": [("set", "a", 1)]}),
            Library({"m": [("set", "a", 0)]}),
            Library({"m": [("set", "a", 1), ("fail",)]}),
            Library({"m": [("fail",), ("set", "a", 1)]}),
            Library({"m": [("fail",)], "n": []}),
            Library({"n": [("fail",)], "m": []}),
        ]
        for one, other in itertools.product(range(len(libraries)), repeat=2):
            self.assertIs(libraries[one] == libraries[other], one == other)
            self.assertIs(libraries[one] != libraries[other], one != other)

    def test_other_values(self):
        library = Library({"m": []})
        for value in NO_NUMBERS_NO_STRINGS + [0, 1, "m", {"m": []}, ("m",), repr(library), ["m"]]:
            self.assertIs(library == value, False)
            self.assertIs(library != value, True)


class Of(LibraryCase):
    def test_pairs(self):
        self.assertEqual(Library.of(("m", [])), Library({"m": []}))
        library = Library.of(("n", EACH_KIND), ("m", [("need", "n")]), ("ab", []))
        self.assertIs(type(library), Library)
        self.assertEqual(library, Library({"n": EACH_KIND, "m": [("need", "n")], "ab": []}))
        self.assertEqual(library.modules(), ["ab", "m", "n"])

    def test_off_an_object(self):
        self.assertEqual(Library({"n": []}).of(("m", [])), Library({"m": []}))

    def test_numbers_of_pairs(self):
        self.check_pairs_refused([], None, -1)
        self.assertEqual(len(Library.of(*[(name, []) for name in FORTY])), 40)
        self.check_pairs_refused([(name, []) for name in FORTY + ["m"]], None, -1)
        self.check_pairs_refused([(name, None) for name in FORTY + ["M"]], None, -1)

    def test_a_module_twice(self):
        self.check_pairs_refused([("m", []), ("m", [])], "m", -1)
        self.check_pairs_refused([("m", []), ("n", []), ("m", [("fail",)])], "m", -1)
        self.check_pairs_refused([("m", []), ("n", []), ("n", []), ("m", [])], "n", -1)
        self.check_pairs_refused([("m", []), ("n", []), ("m", []), ("n", [])], "m", -1)
        self.check_pairs_refused([("m", []), ("m", []), ("m", [])], "m", -1)

    def test_a_module_twice_comes_before_all_other_problems(self):
        self.check_pairs_refused([("k", None), ("m", [None]), ("M", []), ("n", []), ("n", [])], "n", -1)
        self.check_pairs_refused([("n", [None]), ("n", [None])], "n", -1)
        self.check_pairs_refused([("m", [None]), ("M", []), ("M", [])], "M", -1)
        self.check_pairs_refused([(name, []) for name in FORTY + ["aa"]], "aa", -1)

    def test_problems_as_of_a_dict(self):
        for key, value, module, position in PROBLEMS:
            self.check_pairs_refused([(key, value)], module, position)
            self.check_pairs_refused([("aa", []), (key, value), ("bb", None)], module, position)

    def test_modules_that_are_not_strings(self):
        for value in NO_NUMBERS_NO_STRINGS + [0, 1, (), ("m",)]:
            self.check_pairs_refused([("m", []), (value, [])], value, -1)
            self.check_pairs_refused([(value, []), (value, []), ("m", None)], value, -1)
        self.check_pairs_refused([(1, []), (True, [])], 1, -1)
        self.check_pairs_refused([(Agrees(), None), ("m", []), ("m", []), (Refuses(), [])], "m", -1)

    def test_arguments_are_unchanged(self):
        pairs = [("m", [("need", "n")]), ("n", [])]
        before = copy.deepcopy(pairs)
        Library.of(*pairs)
        self.assertEqual(pairs, before)


class Copies(unittest.TestCase):
    def test_the_argument_is_unchanged(self):
        modules = {"n": EACH_KIND, "m": [], "ab": [("fail",)]}
        before = copy.deepcopy(modules)
        library = Library(modules)
        library.modules(), library.initializer("n"), repr(library)
        self.assertEqual(modules, before)
        self.assertEqual(list(modules), ["n", "m", "ab"])

    def check_independent(self, library, modules, program):
        before = repr(library)
        modules["k"] = []
        del modules["m"]
        program.append(("fail",))
        program[0] = None
        self.assertEqual(repr(library), before)
        self.assertEqual(library.modules(), ["m", "n"])
        self.assertEqual(library.initializer("n"), [("need", "m")])

    def test_later_changes_of_the_dict_and_its_lists(self):
        program = [("need", "m")]
        modules = {"n": program, "m": []}
        self.check_independent(Library(modules), modules, program)

    def test_later_changes_of_the_lists_in_pairs(self):
        program = [("need", "m")]
        modules = {"n": program, "m": []}
        self.check_independent(Library.of(*modules.items()), modules, program)

    def test_one_list_for_two_modules(self):
        program = [("fail",)]
        library = Library({"m": program, "n": program})
        library.initializer("m").append(("need", "m"))
        program.append(("need", "n"))
        self.assertEqual(library, Library({"m": [("fail",)], "n": [("fail",)]}))
        self.assertIsNot(library.initializer("m"), library.initializer("n"))

    def test_changes_of_returned_lists(self):
        library = Library({"n": [("need", "m")], "m": []})
        names, steps = library.modules(), library.initializer("n")
        names.reverse()
        names.append("k")
        steps.clear()
        self.assertEqual(library.modules(), ["m", "n"])
        self.assertEqual(library.initializer("n"), [("need", "m")])
        self.assertEqual(library, Library({"m": [], "n": [("need", "m")]}))
        self.assertIs(library.has_module("k"), False)

    def test_returned_lists_are_new(self):
        library = Library({"n": [], "m": []})
        lists = [library.modules(), library.modules(), library.initializer("n"), library.initializer("n")]
        self.assertEqual(len({id(found) for found in lists}), 4)

    def test_libraries_of_one_dict_are_independent(self):
        modules = {"m": [("fail",)]}
        one = Library(modules)
        modules["m"].append(("fail",))
        other = Library(modules)
        self.assertEqual([len(one.initializer("m")), len(other.initializer("m"))], [1, 2])
        self.assertIs(one == other, False)


if __name__ == "__main__":
    unittest.main()
