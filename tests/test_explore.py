"""All schedules [2, 24, 25]."""

import inspect
import itertools
import random
import unittest

from cycleready import explore
from cycleready.explore import (
    MAX_STATES,
    count_states,
    early_pairs,
    final_outcomes,
    first_schedule,
    is_decided,
    schedules,
)
from cycleready.library import Library
from cycleready.world import World, run
from drawn import drawn_library, drawn_program
from values import NO_NAMES, are_same, tried
from world_model import shown
from worlds import made

PLAIN = {"m": [("set", "a", 5), ("export", "x", "a")], "n": [("need", "m")]}
CYCLE = {"p": [("need", "q")], "q": [("need", "p")]}
# What q reads, and so its export, depends on the schedule.
RACE = {"p": [("need", "q"), ("set", "a", 1), ("export", "x", "a")], "q": [("need", "p"), ("read", "b", "p", "x"), ("export", "y", "b")]}


def after(world, threads):
    """A copy of a world after the actions of these threads."""
    world = world.clone()
    for thread in threads:
        world.act(thread)
    return world


class Judged:
    """All states of a world, found by a search that compares worlds with each other."""

    def __init__(self, world):
        self.start = world
        self.states = [([], world.clone())]
        self.pairs = set()
        self.firsts = {}
        at = 0
        while at < len(self.states):
            schedule, state = self.states[at]
            at += 1
            for thread in state.can_run():
                self.move(schedule, state, thread)

    def move(self, schedule, state, thread):
        following = after(state, [thread])
        event = following.events()[-1]
        if event[0] == "continue" and event[4] == "early":
            self.pairs.add((event[2], event[3]))
            found = schedule + [thread]
            best = self.firsts.get((event[2], event[3]), found)
            self.firsts[event[2], event[3]] = min(best, found, key=lambda row: (len(row), row))
        if not any(following == other for row, other in self.states):
            self.states.append((schedule + [thread], following))

    def outcomes(self):
        return sorted({state.outcome() for schedule, state in self.states if not state.can_run()})


class ExploreCase(unittest.TestCase):
    def check_judged(self, world):
        judged = Judged(world)
        before = shown(world), world.history()
        count = len(judged.states)
        self.assertEqual(count_states(world), count)
        found = list(schedules(world))
        self.assertEqual(len(found), count)
        self.assertEqual(found, sorted(found, key=lambda row: (len(row), row)))
        self.assertEqual(sorted(found), sorted(self.shortest(judged)))
        self.assertEqual(final_outcomes(world), judged.outcomes())
        self.assertEqual(early_pairs(world), sorted(judged.pairs))
        for source, target in itertools.product(world.library().modules(), repeat=2):
            self.assertEqual(first_schedule(world, source, target), judged.firsts.get((source, target)))
        self.assertEqual((shown(world), world.history()), before)
        return judged

    def shortest(self, judged):
        """The schedules by which the search found its states; it tries threads in sorted order, layer by layer."""
        return [schedule for schedule, state in judged.states]

    def functions(self, world):
        """The functions with a limit, as functions of the limit alone."""
        first = world.library().modules()[0]
        return [
            lambda limit: count_states(world, limit=limit),
            lambda limit: final_outcomes(world, limit=limit),
            lambda limit: early_pairs(world, limit=limit),
            lambda limit: first_schedule(world, first, first, limit=limit),
            lambda limit: list(schedules(world, limit=limit)),
        ]


class Counts(ExploreCase):
    def test_small_worlds(self):
        self.assertEqual(count_states(World(Library(PLAIN))), 1)
        self.assertEqual(count_states(made(PLAIN, t=[])), 2)
        self.assertEqual(count_states(made(PLAIN, s=[], t=[])), 4)
        self.assertEqual(count_states(made(PLAIN, t=[("set", "a", 1), ("fail",)])), 3)

    def test_threads_that_do_not_touch_each_other(self):
        for many in (1, 2, 3, 4):
            world = made(PLAIN, **{name: [("set", "a", 1)] for name in "stuv"[:many]})
            self.assertEqual(count_states(world=world), 3 ** many)

    def test_a_thread_that_has_ended(self):
        world = made(PLAIN, t=[("need", "n")])
        run(world)
        self.assertEqual([count_states(world), list(schedules(world))], [1, [[]]])
        self.assertEqual(final_outcomes(world), [world.outcome()])

    def test_equal_states_count_once(self):
        # The two threads can request m in both orders; then m is on one of the two stacks.
        world = made({"m": []}, s=[("need", "m")], t=[("need", "m")])
        self.check_judged(world)

    def test_most_states(self):
        self.assertEqual(MAX_STATES, 2000)
        for function in ("count_states", "schedules", "final_outcomes", "early_pairs", "first_schedule"):
            limit = inspect.signature(getattr(explore, function)).parameters["limit"]
            self.assertEqual([limit.default, limit.kind], [2000, inspect.Parameter.KEYWORD_ONLY])
        world = made(PLAIN, **{name: [("set", "a", 1)] for name in "stuvwx"})
        self.assertEqual(count_states(world), 729)
        world.add_thread("y", [("set", "a", 1)])
        self.assertEqual(tried(count_states, world), ("TooMany", 2000))
        self.assertEqual(count_states(world, limit=2187), 2187)

    def test_parameters(self):
        expected = {"first_schedule": ["world", "source", "target", "limit"], "is_decided": ["world"]}
        for function in ("count_states", "schedules", "final_outcomes", "early_pairs", "first_schedule", "is_decided"):
            parameters = list(inspect.signature(getattr(explore, function)).parameters)
            self.assertEqual(parameters, expected.get(function, ["world", "limit"]))
        with self.assertRaises(TypeError):
            count_states(made(PLAIN), 7)


class Limits(ExploreCase):
    def test_each_limit(self):
        for world in (made(PLAIN, t=[("need", "m")]), made(CYCLE, s=[("need", "p")], t=[("need", "q")])):
            count = count_states(world)
            for function in self.functions(world):
                expected = function(count)
                for limit in (count + 1, count * 2, 5000, 10 ** 29):
                    self.assertEqual(function(limit), expected)
                for limit in (0, 1, 2, count - 1):
                    self.assertTrue(are_same(tried(function, limit), ("TooMany", limit)))

    def test_too_many_also_if_the_result_is_known_before(self):
        world = made(CYCLE, s=[("need", "p")], t=[("need", "q")])
        found = first_schedule(world, "q", "p")
        count = count_states(world)
        before = list(schedules(world))
        self.assertGreater(count - 1, before.index(found))
        self.assertEqual(tried(first_schedule, world, "q", "p", limit=count - 1), ("TooMany", count - 1))
        ended = made(PLAIN, t=[("fail",)], s=[("fail",)])
        self.assertEqual(tried(early_pairs, ended, limit=3), ("TooMany", 3))

    def test_schedules_come_before_the_error(self):
        world = made(PLAIN, s=[("set", "a", 1)], t=[])
        every = list(schedules(world))
        for limit in range(len(every)):
            found = []
            with self.assertRaises(ArithmeticError) as caught:
                for schedule in schedules(world, limit=limit):
                    found.append(schedule)
            self.assertEqual([found, caught.exception.limit], [every[:limit], limit])

    def test_a_generator(self):
        self.assertTrue(inspect.isgeneratorfunction(schedules))
        self.assertTrue(inspect.isgenerator(schedules(made(PLAIN))))
        # Without being asked for a list, it raises nothing.
        schedules(made(PLAIN, t=[]), limit=0)

    def test_the_first_lists_of_a_large_world(self):
        world = made(PLAIN, **{name: [("set", "a", 1)] * 20 for name in "abcdefgh"})
        found = list(itertools.islice(schedules(world, limit=10 ** 20), 4))
        self.assertEqual(found, [[], ["a"], ["b"], ["c"]])


class Schedules(ExploreCase):
    def test_order(self):
        world = made(PLAIN, s=[("set", "a", 1)], t=[])
        self.assertEqual(list(schedules(world)), [[], ["s"], ["t"], ["s", "s"], ["s", "t"], ["s", "s", "t"]])

    def test_they_lead_to_different_states(self):
        world = made(CYCLE, s=[("need", "p")], t=[("need", "q")])
        states = [after(world, schedule) for schedule in schedules(world)]
        for one, other in itertools.combinations(states, 2):
            self.assertIs(one == other, False)

    def test_changes_of_the_world_while_it_walks(self):
        world = made(CYCLE, s=[("need", "p")], t=[("need", "q")])
        expected = list(schedules(world))
        walking = schedules(world)
        found = [next(walking)]
        run(world)
        world.add_thread("u", [])
        for schedule in walking:
            found.append(schedule)
            world.undo(count=min(len(world), 2))
        self.assertEqual(found, expected)

    def test_changes_of_the_lists(self):
        world = made(PLAIN, s=[("set", "a", 1)], t=[])
        expected = list(schedules(world))
        found = []
        for schedule in schedules(world):
            found.append(list(schedule))
            schedule.append("z")
            schedule.reverse()
        self.assertEqual(found, expected)

    def test_no_two_lists_are_the_same_object(self):
        found = list(schedules(made(PLAIN, s=[], t=[])))
        self.assertEqual(len({id(schedule) for schedule in found}), len(found))


class Outcomes(ExploreCase):
    def test_one(self):
        world = made(PLAIN, s=[("need", "n")], t=[("need", "m"), ("read", "a", "m", "x")])
        self.assertEqual(len(final_outcomes(world)), 1)
        run(world)
        self.assertEqual(final_outcomes(world), [world.outcome()])

    def test_several(self):
        world = made(RACE, s=[("need", "p")], t=[("need", "q")])
        found = [dict((row[0], row[2]) for row in modules)["q"] for modules, mains in final_outcomes(world)]
        self.assertEqual(found, [(("y", -1),), (("y", 1),)])
        self.assertEqual(final_outcomes(world), sorted(final_outcomes(world)))

    def test_pairs(self):
        world = made(RACE, s=[("need", "p")], t=[("need", "q")])
        self.assertEqual(early_pairs(world), [("p", "q"), ("q", "p")])
        self.assertEqual(early_pairs(made({"m": [("need", "m")]}, t=[("need", "m")])), [("m", "m")])
        self.assertEqual(early_pairs(made(PLAIN, s=[("need", "n")], t=[("need", "m")])), [])

    def test_results_are_new(self):
        world = made(CYCLE, s=[("need", "p")], t=[("need", "q")])
        early_pairs(world).clear()
        final_outcomes(world).clear()
        first_schedule(world, "q", "p").clear()
        self.assertEqual([early_pairs(world), len(final_outcomes(world))], [[("p", "q"), ("q", "p")], 1])
        self.assertEqual(first_schedule(world, "q", "p"), ["s"] * 4)


class FirstSchedules(ExploreCase):
    def test_they_end_with_the_access(self):
        world = made(RACE, s=[("need", "p")], t=[("need", "q")])
        for source, target in (("p", "q"), ("q", "p")):
            schedule = first_schedule(world=world, source=source, target=target)
            event = after(world, schedule).events()[-1]
            self.assertEqual(event, ("continue", schedule[-1], source, target, "early"))

    def test_none(self):
        world = made(CYCLE, s=[("need", "p")], t=[("need", "q")])
        self.assertIsNone(first_schedule(world, "p", "p"))
        run(world)
        self.assertIsNone(first_schedule(world, "q", "p"))

    def test_unknown_modules(self):
        world = made(CYCLE, s=[("need", "p")])
        before = shown(world)
        for value in NO_NAMES + ["s", "z"]:
            for source, target in ((value, "p"), (value, None), ("p", value)):
                self.assertTrue(are_same(tried(first_schedule, world, source, target), ("UnknownModule", value)))
                found = tried(first_schedule, world, source, target, limit=0)
                self.assertTrue(are_same(found, ("UnknownModule", value)))
        self.assertEqual(tried(first_schedule, world, "p", "q", limit=0), ("TooMany", 0))
        self.assertEqual(shown(world), before)


class Decided(ExploreCase):
    def test_no_threads(self):
        self.assertIs(is_decided(World(Library(PLAIN))), True)
        self.assertIs(is_decided(world=made(PLAIN, t=[])), False)

    def test_while_a_thread_can_run(self):
        world = made(PLAIN, t=[("need", "n")])
        while world.can_run():
            self.assertIs(is_decided(world), False)
            world.act("t")
        self.assertIs(is_decided(world), True)

    def test_a_cycle(self):
        world = made(CYCLE, s=[("need", "p")])
        run(world)
        self.assertIs(is_decided(world), False)
        world = made({"m": [("try", "m", "a")]}, s=[("need", "m")])
        run(world)
        self.assertIs(is_decided(world), False)

    def test_a_cycle_that_was_deleted(self):
        world = made({"f": [("try", "f", "a"), ("fail",)]}, s=[("need", "f")])
        run(world)
        self.assertEqual([len(world.needs()), world.recorded().pairs()], [0, [("f", "f")]])
        self.assertIs(is_decided(world), False)

    def test_retry(self):
        world = made({"f": [("fail",)]}, t=[("try", "f", "a")])
        run(world)
        self.assertIs(is_decided(world), True)
        world.retry("f")
        self.assertIs(is_decided(world), False)
        world.undo()
        self.assertIs(is_decided(world), True)

    def test_unload(self):
        world = made(PLAIN, t=[("need", "m")])
        world.unload()
        run(world)
        self.assertIs(is_decided(world), False)
        world = World(Library(PLAIN))
        world.unload()
        self.assertIs(is_decided(world), False)

    def test_a_thread_that_was_added_late(self):
        world = made(PLAIN, s=[("need", "m")])
        run(world)
        world.add_thread("t", [])
        run(world)
        self.assertIs(is_decided(world), False)
        world.undo(count=2)
        self.assertIs(is_decided(world), True)
        world = made(PLAIN, s=[("need", "m")], t=[])
        run(world)
        self.assertIs(is_decided(world), True)

    def test_failures(self):
        world = made({"f": [("fail",)], "g": [("need", "f")]}, s=[("need", "g")], t=[("try", "f", "a")])
        run(world)
        self.assertIs(is_decided(world), True)
        self.assertEqual(shown(world), shown(world.clone()))


class AgainstASearch(ExploreCase):
    def test_random_worlds(self):
        draw = random.Random(24)
        early = 0
        for count in range(50):
            programs = drawn_library(draw, draw.randint(1, 3), 3)
            mains = {name: drawn_program(draw, sorted(programs), 2, is_main=True) for name in "uv"}
            world = made(programs, **mains)
            for step in range(draw.randrange(3)):
                if world.can_run():
                    world.act(world.can_run()[0])
            early += len(self.check_judged(world).pairs) > 0
        self.assertGreater(early, 10)

    def test_several_outcomes(self):
        judged = self.check_judged(made(RACE, s=[("need", "p")], t=[("need", "q")]))
        self.assertEqual(len(judged.outcomes()), 2)

    def test_decided_worlds_have_one_outcome_and_no_early_pair(self):
        draw = random.Random(25)
        decided = 0
        for count in range(120):
            programs = drawn_library(draw, draw.randint(1, 3), 3, is_acyclic=draw.random() < 0.5)
            mains = {name: drawn_program(draw, sorted(programs), 2, is_main=True) for name in "uv"}
            world = made(programs, **mains)
            final = world.clone()
            run(final, choices=[draw.randrange(2) for choice in range(40)])
            if is_decided(final):
                decided += 1
                self.assertEqual(final_outcomes(world), [final.outcome()])
                self.assertEqual(early_pairs(world), [])
        self.assertGreater(decided, 30)

    def test_fingerprints(self):
        """Two worlds that were reached from one have the same fingerprint if and only if they are equal."""
        draw = random.Random(26)
        for count in range(12):
            programs = drawn_library(draw, 3, 4)
            mains = {name: drawn_program(draw, sorted(programs), 3, is_main=True) for name in "uv"}
            worlds = []
            for schedule in range(3):
                world = made(programs, **mains)
                while world.can_run():
                    world.act(draw.choice(world.can_run()))
                    worlds.append(world.clone())
            for one, other in itertools.combinations(worlds, 2):
                self.assertIs(one.fingerprint() == other.fingerprint(), one == other)


if __name__ == "__main__":
    unittest.main()
