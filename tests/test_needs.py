"""Graphs of needs [2, 9]."""

import inspect
import itertools
import random
import unittest

from cycleready.errors import InvalidName, NoNeed
from cycleready.needs import Needs
from values import NO_NAMES, NO_NUMBERS_NO_STRINGS, Agrees, Refuses, Word, is_same

# Two ways of the same length from a to e, a cycle of three, a need of a name by itself.
PAIRS = [("a", "c"), ("a", "b"), ("b", "d"), ("c", "d"), ("d", "e"), ("e", "b"), ("f", "f"), ("c", "c")]


def paths_between(pairs, names, one, other):
    """All paths from one name to the other, the shortest first, equally long ones in sorted order."""
    found = []
    for length in range(1, len(names) + 1):
        for path in itertools.permutations(sorted(names), length):
            steps = zip(path, path[1:])
            if path[0] == one and path[-1] == other and all(step in pairs for step in steps):
                found.append(list(path))
    return found


def cycles_from(pairs, names, name):
    """All cycles that begin with a name, the shortest first, equally long ones in sorted order."""
    paths = [path for last in names for path in paths_between(pairs, names, name, last) if (last, name) in pairs]
    return sorted(paths, key=lambda path: (len(path), path))


class NeedsCase(unittest.TestCase):
    def check_judged(self, needs, pairs, names):
        """Each answer of a graph is the one that follows from trying all lists of names."""
        pairs = sorted(set(pairs))
        paths = {(one, other): paths_between(pairs, names, one, other) for one in names for other in names}
        for one in names:
            self.assertEqual(needs.targets(one), [target for source, target in pairs if source == one])
            self.assertEqual(needs.sources(one), [source for source, target in pairs if target == one])
            self.assertEqual(needs.closure(one), [other for other in names if paths[one, other]])
            self.assertEqual(needs.group(one), [other for other in names if paths[one, other] and paths[other, one]])
            cycles = cycles_from(pairs, names, one)
            self.assertEqual(needs.cycle_through(one), cycles[0] if cycles else None)
            for other in names:
                self.assertIs(needs.depends(one, other), paths[one, other] != [])
                self.assertEqual(needs.path(one, other), paths[one, other][0] if paths[one, other] else None)
        self.assertIs(needs.is_acyclic(), all(not cycles_from(pairs, names, name) for name in names))
        self.check_shown(needs, pairs)

    def check_shown(self, needs, pairs):
        self.assertEqual(needs.pairs(), pairs)
        self.assertEqual(len(needs), len(pairs))
        self.assertEqual(repr(needs), f"Needs({pairs!r})")
        self.assertEqual(str(needs), " ".join(f"{source}:{target}" for source, target in pairs))


class Shown(NeedsCase):
    def test_no_needs(self):
        needs = Needs()
        self.check_shown(needs, [])
        self.assertEqual([repr(needs), str(needs), len(needs)], ["Needs([])", "", 0])

    def test_sorted_pairs(self):
        needs = Needs.of(("b", "c"), ("ab", "z"), ("b", "a"), ("a", "b"), ("z", "z"))
        self.check_shown(needs, [("a", "b"), ("ab", "z"), ("b", "a"), ("b", "c"), ("z", "z")])
        self.assertEqual(str(needs), "a:b ab:z b:a b:c z:z")

    def test_kinds(self):
        needs = Needs.of(("a", "b"))
        self.assertEqual([type(needs.pairs()), type(needs.pairs()[0])], [list, tuple])
        self.assertEqual([type(needs.targets("a")), type(needs.sources("b"))], [list, list])
        self.assertEqual([type(needs.closure("a")), type(needs.group("a")), type(needs.path("a", "b"))], [list] * 3)

    def test_names_that_show_themselves_in_another_way(self):
        needs = Needs()
        self.assertIs(needs.record(Word.MODULE, Word.OTHER), True)
        self.assertIs(needs.record("m", "n"), False)
        self.check_shown(needs, [("m", "n")])
        self.assertEqual(repr(needs.path(Word.MODULE, Word.OTHER)), "['m', 'n']")
        self.assertEqual(needs.delete_all(Word.MODULE), 1)


class Changes(NeedsCase):
    def test_record(self):
        needs = Needs()
        self.assertIs(needs.record("a", "b"), True)
        self.assertIs(needs.record("a", "b"), False)
        self.assertIs(needs.record("b", "a"), True)
        self.assertIs(needs.record("a", "a"), True)
        self.assertIs(needs.record("a", "a"), False)
        self.assertIs(needs.record(target="c", source="b"), True)
        self.check_shown(needs, [("a", "a"), ("a", "b"), ("b", "a"), ("b", "c")])

    def test_longest_names(self):
        needs = Needs.of(("abcdefgh", "hgfedcba"))
        self.assertEqual(needs.path("abcdefgh", "hgfedcba"), ["abcdefgh", "hgfedcba"])

    def test_delete(self):
        needs = Needs.of(*PAIRS)
        left = sorted(PAIRS)
        for source, target in PAIRS:
            self.assertIsNone(needs.delete(source, target))
            left.remove((source, target))
            self.check_judged(needs, left, "abcdef")
        self.assertEqual(needs, Needs())

    def test_delete_by_name_and_record_again(self):
        needs = Needs.of(("a", "b"))
        self.assertIsNone(needs.delete(target="b", source="a"))
        self.assertIs(needs.record("a", "b"), True)
        self.check_shown(needs, [("a", "b")])

    def test_delete_all(self):
        needs = Needs.of(*PAIRS)
        self.assertEqual(needs.delete_all("a"), 2)
        self.check_judged(needs, [pair for pair in PAIRS if pair[0] != "a"], "abcdef")
        self.assertEqual(needs.delete_all("a"), 0)
        self.assertEqual(needs.delete_all(source="f"), 1)
        self.assertEqual(needs.delete_all("absent"), 0)
        self.check_judged(needs, [pair for pair in PAIRS if pair[0] not in "af"], "abcdef")

    def test_delete_all_keeps_needs_of_the_name(self):
        needs = Needs.of(("a", "b"), ("b", "a"), ("c", "b"), ("b", "b"))
        self.assertEqual(needs.delete_all("b"), 2)
        self.check_shown(needs, [("a", "b"), ("c", "b")])

    def test_parameters(self):
        expected = {"record": ["source", "target"], "delete": ["source", "target"], "delete_all": ["source"], "pairs": []}
        expected |= {"targets": ["name"], "sources": ["name"], "depends": ["one", "other"], "closure": ["name"]}
        expected |= {"group": ["name"], "path": ["one", "other"], "cycle_through": ["name"], "is_acyclic": [], "clone": []}
        for name, parameters in expected.items():
            self.assertEqual(list(inspect.signature(getattr(Needs, name)).parameters), ["self"] + parameters)
        self.assertEqual(list(inspect.signature(Needs).parameters), [])


class Answers(NeedsCase):
    def test_names_in_no_need(self):
        for needs in (Needs(), Needs.of(("a", "b"))):
            self.assertEqual(needs.targets("x"), [])
            self.assertEqual(needs.sources("x"), [])
            self.assertEqual(needs.closure("x"), ["x"])
            self.assertEqual(needs.group("x"), ["x"])
            self.assertIs(needs.depends("x", "x"), True)
            self.assertIs(needs.depends("x", "a"), False)
            self.assertIs(needs.depends("a", "x"), False)
            self.assertEqual(needs.path("x", "x"), ["x"])
            self.assertIsNone(needs.path("x", "a"))
            self.assertIsNone(needs.path("a", "x"))
            self.assertIsNone(needs.cycle_through("x"))
            self.assertIs(needs.is_acyclic(), True)

    def test_a_name_that_needs_itself(self):
        needs = Needs.of(("a", "a"), ("a", "b"), ("b", "a"))
        self.assertEqual(needs.cycle_through("a"), ["a"])
        self.assertEqual(needs.cycle_through("b"), ["b", "a"])
        self.assertEqual(needs.path("a", "a"), ["a"])
        self.assertEqual(needs.group("a"), ["a", "b"])
        self.assertIs(needs.is_acyclic(), False)
        self.assertIs(Needs.of(("a", "a")).is_acyclic(), False)

    def test_a_chain(self):
        needs = Needs.of(("c", "b"), ("b", "a"), ("d", "c"))
        self.assertEqual(needs.path("d", "a"), ["d", "c", "b", "a"])
        self.assertIsNone(needs.path("a", "d"))
        self.assertEqual(needs.closure("c"), ["a", "b", "c"])
        self.assertEqual(needs.group("c"), ["c"])
        self.assertIs(needs.is_acyclic(), True)

    def test_a_long_cycle(self):
        names = [first + second for first in "abcdef" for second in "abcdefghij"]
        needs = Needs.of(*zip(names, names[1:] + names[:1]))
        self.assertEqual(needs.path("ab", "aa"), names[1:] + ["aa"])
        self.assertEqual(needs.cycle_through("cc"), names[22:] + names[:22])
        self.assertEqual(needs.group("ff"), names)
        needs.delete("fj", "aa")
        self.assertIs(needs.is_acyclic(), True)
        self.assertIsNone(needs.cycle_through("cc"))

    def test_the_first_of_equally_short_paths(self):
        needs = Needs.of(("a", "z"), ("z", "e"), ("a", "y"), ("y", "e"), ("a", "b"), ("b", "c"), ("c", "e"))
        self.assertEqual(needs.path("a", "e"), ["a", "y", "e"])
        needs.record("e", "a")
        self.assertEqual(needs.cycle_through("a"), ["a", "y", "e"])
        self.assertEqual(needs.cycle_through("e"), ["e", "a", "y"])

    def test_the_first_place_decides(self):
        pairs = [("a", "b"), ("b", "z"), ("z", "e"), ("a", "c"), ("c", "d"), ("d", "e")]
        self.assertEqual(Needs.of(*pairs).path("a", "e"), ["a", "b", "z", "e"])
        self.assertEqual(Needs.of(("e", "a"), *pairs).cycle_through("a"), ["a", "b", "z", "e"])

    def test_the_shortest_cycle_need_not_be_the_first(self):
        needs = Needs.of(("a", "b"), ("b", "c"), ("c", "a"), ("a", "z"), ("z", "a"))
        self.assertEqual(needs.cycle_through("a"), ["a", "z"])
        self.assertEqual(needs.cycle_through("b"), ["b", "c", "a"])

    def test_a_name_that_leads_into_a_cycle(self):
        needs = Needs.of(("a", "b"), ("b", "c"), ("c", "b"))
        self.assertIsNone(needs.cycle_through("a"))
        self.assertEqual(needs.group("a"), ["a"])
        self.assertIs(needs.is_acyclic(), False)

    def test_by_name(self):
        needs = Needs.of(("a", "b"))
        self.assertEqual([needs.targets(name="a"), needs.sources(name="b")], [["b"], ["a"]])
        self.assertEqual([needs.closure(name="a"), needs.group(name="a")], [["a", "b"], ["a"]])
        self.assertEqual([needs.depends(other="b", one="a"), needs.path(other="b", one="a")], [True, ["a", "b"]])
        self.assertIsNone(needs.cycle_through(name="a"))

    def test_repeated_questions(self):
        needs = Needs.of(*PAIRS)
        for turn in range(2):
            self.check_judged(needs, PAIRS, "abcdef")


class AllGraphs(NeedsCase):
    def test_each_graph_of_three_names(self):
        possible = list(itertools.product("abc", repeat=2))
        for chosen in itertools.product([False, True], repeat=len(possible)):
            pairs = [pair for pair, is_chosen in zip(possible, chosen) if is_chosen]
            self.check_judged(Needs.of(*pairs), pairs, "abc")

    def test_some_graphs_of_five_names(self):
        source = random.Random(9)
        possible = list(itertools.product("abcde", repeat=2))
        for turn in range(150):
            pairs = source.sample(possible, source.randrange(3, 12))
            self.check_judged(Needs.of(*pairs), pairs, "abcde")

    def test_many_changes(self):
        source = random.Random(2)
        needs, pairs = Needs(), set()
        for turn in range(400):
            pair = (source.choice("abcd"), source.choice("abcd"))
            if source.random() < 0.5:
                self.assertIs(needs.record(*pair), pair not in pairs)
                pairs.add(pair)
            elif source.random() < 0.2:
                self.assertEqual(needs.delete_all(pair[0]), len([one for one in pairs if one[0] == pair[0]]))
                pairs = {one for one in pairs if one[0] != pair[0]}
            elif pair in pairs:
                needs.delete(*pair)
                pairs.remove(pair)
            self.check_shown(needs, sorted(pairs))
            self.assertEqual(needs, Needs.of(*pairs))


class WrongValues(NeedsCase):
    def setUp(self):
        self.needs = Needs.of(*PAIRS)

    def tearDown(self):
        self.check_shown(self.needs, sorted(PAIRS))

    def check_invalid(self, value, function, *arguments):
        with self.assertRaises(InvalidName) as caught:
            function(*arguments)
        self.assertTrue(is_same(caught.exception.value, value))

    def test_one_name(self):
        for value in NO_NAMES:
            for function in (self.needs.closure, self.needs.group, self.needs.cycle_through):
                self.check_invalid(value, function, value)

    def test_two_names(self):
        for value in NO_NAMES:
            for function in (self.needs.record, self.needs.depends, self.needs.path):
                self.check_invalid(value, function, value, "a")
                self.check_invalid(value, function, "a", value)
                self.check_invalid(value, function, value, value)

    def test_the_first_wrong_value(self):
        for function in (self.needs.record, self.needs.depends, self.needs.path):
            self.check_invalid(1, function, 1, True)
            self.check_invalid(True, function, True, 1)
            self.check_invalid("A", function, "A", None)

    def test_delete(self):
        pairs = [(value, "b") for value in NO_NAMES] + [("a", value) for value in NO_NAMES]
        pairs += [(value, value) for value in NO_NAMES]
        pairs += [("b", "a"), ("a", "a"), ("a", "d"), ("x", "y"), ("g", "a"), ("f", "g")]
        pairs += [(Refuses(), Agrees()), (["a"], {"b": 1}), (None, "b"), (("a", "b"), None)]
        for at, (source, target) in enumerate(pairs):
            with self.assertRaises(NoNeed) as caught:
                self.needs.delete(source, target)
            self.assertTrue(is_same(caught.exception.source, source), msg=f"pair {at}")
            self.assertTrue(is_same(caught.exception.target, target), msg=f"pair {at}")

    def test_delete_all_targets_and_sources(self):
        for value in NO_NAMES + ["x", "g"]:
            self.assertEqual(self.needs.delete_all(value), 0)
            self.assertEqual(self.needs.targets(value), [])
            self.assertEqual(self.needs.sources(value), [])

    def test_of(self):
        for value in NO_NAMES:
            self.check_invalid(value, Needs.of, (value, "a"))
            self.check_invalid(value, Needs.of, ("a", "b"), ("a", value), ("B", "a"))
        self.check_invalid("A", Needs.of, ("a", "A"), ("B", "a"))
        self.check_invalid("A", Needs.of, ("A", "B"))
        self.check_invalid("B", Needs.of, ("a", "b"), ("a", "B"), (None, "a"))


class Equality(unittest.TestCase):
    def test_in_each_order(self):
        pairs = [("a", "b"), ("b", "a"), ("b", "c"), ("a", "a")]
        needs = Needs.of(*pairs)
        for order in itertools.permutations(pairs):
            self.assertIs(needs == Needs.of(*order), True)
            self.assertIs(needs != Needs.of(*order), False)

    def test_after_changes(self):
        needs = Needs.of(("a", "b"), ("b", "c"))
        needs.record("c", "a")
        needs.delete("c", "a")
        needs.record("d", "a")
        needs.record("d", "b")
        self.assertEqual(needs.delete_all("d"), 2)
        self.assertEqual(needs, Needs.of(("a", "b"), ("b", "c")))

    def test_different_graphs(self):
        graphs = [Needs(), Needs.of(("a", "b")), Needs.of(("b", "a")), Needs.of(("a", "b"), ("b", "a")), Needs.of(("a", "a"))]
        for one, other in itertools.product(range(len(graphs)), repeat=2):
            self.assertIs(graphs[one] == graphs[other], one == other)
            self.assertIs(graphs[one] != graphs[other], one != other)

    def test_other_values(self):
        for needs in (Needs(), Needs.of(("a", "b"))):
            for value in NO_NUMBERS_NO_STRINGS + [0, "", (), [("a", "b")], "a:b", repr(needs), needs.pairs(), {"a": ["b"]}]:
                self.assertIs(needs == value, False)
                self.assertIs(needs != value, True)


class Copies(NeedsCase):
    def test_of(self):
        self.assertEqual(Needs.of(), Needs())
        self.assertIs(type(Needs.of(("a", "b"))), Needs)
        self.check_shown(Needs.of(("b", "c"), ("a", "b"), ("b", "c")), [("a", "b"), ("b", "c")])
        self.assertEqual(Needs.of(("a", "b")).of(("c", "d")), Needs.of(("c", "d")))

    def test_clone(self):
        for pairs in ([], [("a", "a")], PAIRS):
            needs = Needs.of(*pairs)
            other = needs.clone()
            self.assertIs(type(other), Needs)
            self.assertIsNot(other, needs)
            self.assertEqual(other, needs)
            self.check_judged(other, pairs, "abcdef")

    def test_a_clone_is_independent_in_both_directions(self):
        for first, second in ((0, 1), (1, 0)):
            needs = Needs.of(*PAIRS)
            graphs = [needs, needs.clone()]
            graphs[first].record("a", "f")
            graphs[first].delete("a", "b")
            graphs[first].delete_all("c")
            graphs[first].record("x", "y")
            self.check_shown(graphs[second], sorted(PAIRS))
            self.assertIs(graphs[first] == graphs[second], False)

    def test_graphs_are_independent(self):
        one, other = Needs(), Needs()
        one.record("a", "b")
        self.assertEqual([len(one), len(other)], [1, 0])

    def lists_of(self, needs):
        lists = [needs.pairs(), needs.targets("a"), needs.sources("b"), needs.closure("a"), needs.group("b")]
        lists += [needs.path("a", "e"), needs.path("a", "a"), needs.cycle_through("b"), needs.cycle_through("f")]
        return lists + [needs.targets("x"), needs.targets(None), needs.sources(None), needs.closure("x")]

    def test_changes_of_returned_lists(self):
        needs = Needs.of(*PAIRS)
        for found in self.lists_of(needs):
            found.reverse()
            found.append("z")
            found[0] = "y"
        self.check_judged(needs, PAIRS, "abcdef")
        self.assertEqual([needs.targets("x"), needs.targets(None), needs.sources(None), needs.closure("x")], [[], [], [], ["x"]])

    def test_returned_lists_are_new(self):
        needs = Needs.of(*PAIRS)
        lists = self.lists_of(needs) + self.lists_of(needs)
        self.assertEqual(len({id(found) for found in lists}), len(lists))


if __name__ == "__main__":
    unittest.main()
