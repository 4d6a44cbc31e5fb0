"""The guarantees [4], in worlds that are drawn at random, under many schedules."""

import random
import unittest

from cycleready.library import Library
from cycleready.plain import plain_run
from cycleready.world import World, run
from drawn import drawn_library, drawn_program

MOST_ACTIONS = 3000


def drawn_mains(draw, programs, names):
    return {name: drawn_program(draw, sorted(programs), 5, is_main=True) for name in names}


def made(programs, mains):
    world = World(Library(programs))
    for name, program in mains.items():
        world.add_thread(name, program)
    return world


def snapshot(world):
    """The states, exports, needs and early accesses before an action."""
    modules = world.library().modules()
    return {
        "states": {module: world.state_of(module) for module in modules},
        "exports": {module: world.exports(module) for module in modules},
        "needs": world.needs(),
        "early": world.early(),
    }


class Watched(unittest.TestCase):
    """Performs actions, and checks after each one what holds between the states before and after it."""

    def check_progress(self, world):
        unfinished = [name for name in world.threads() if world.status(name) == "running"]
        self.assertEqual(world.can_run() == [], unfinished == [])

    def check_ready_modules(self, world, before):
        for module, state in before["states"].items():
            if state == "ready":
                self.assertEqual(world.state_of(module), "ready")
                self.assertEqual(world.exports(module), before["exports"][module])
        for module in world.library().modules():
            if world.state_of(module) == "ready":
                for other in world.needs().closure(module):
                    self.assertEqual(world.state_of(other), "ready")

    def check_continue(self, world, before, event):
        kind, thread, module, target, answer = event
        if answer == "ready":
            for other in before["needs"].closure(target):
                self.assertEqual(before["states"][other], "ready")
        elif answer == "early":
            self.assertIn(before["states"][target], ("running", "done"))
            if (module, target) not in before["early"]:
                self.assertTrue(before["needs"].depends(module, target) and before["needs"].depends(target, module))
                self.seen["early"] += 1
        else:
            self.assertEqual(before["states"][target], "failed")

    def check_finish(self, before, event):
        """Modules that depend on each other become ready at the same moment, and none before one that it looked at."""
        ready = event[3]
        self.seen["together"] += len(ready) > 1
        after_all = {module for module in before["states"] if before["states"][module] == "ready"} | set(ready)
        for module in ready:
            self.assertLessEqual(set(before["needs"].group(module)), after_all)
            for source, target in before["early"]:
                if source == module:
                    self.assertIn(target, after_all)

    def check_fail(self, world, before, event):
        """Exactly the module itself and those that looked at a failed one, directly or not, fail."""
        kind, thread, module, failed = event
        expected = set() if module is None else {module}
        for count in before["states"]:
            expected |= {source for source, target in before["early"] if target in expected}
        self.assertEqual(list(failed), sorted(expected))
        self.seen["together failed"] += len(failed) > 1
        for other, state in before["states"].items():
            self.assertEqual(world.state_of(other), "failed" if other in expected else state)

    def watched_act(self, world, thread):
        before = snapshot(world)
        event = world.act(thread)
        self.check_ready_modules(world, before)
        if event[0] == "continue":
            self.check_continue(world, before, event)
        elif event[0] == "finish":
            self.check_finish(before, event)
        elif event[0] == "fail":
            self.check_fail(world, before, event)
        self.check_progress(world)
        return event

    def watched_run(self, world, draw):
        self.check_progress(world)
        for count in range(MOST_ACTIONS):
            if not world.can_run():
                return
            self.watched_act(world, draw.choice(world.can_run()))
        self.fail("the schedule does not end")

    def setUp(self):
        self.seen = {"early": 0, "together": 0, "together failed": 0}


class RandomWorlds(Watched):
    def started(self, world):
        return [event[3] for event in world.events() if event[0] == "request" and event[4]]

    def test_each_action(self):
        draw = random.Random(40)
        for count in range(160):
            programs = drawn_library(draw, draw.randint(2, 5), 6)
            mains = drawn_mains(draw, programs, "uvw")
            for schedule in range(3):
                world = made(programs, mains)
                self.watched_run(world, draw)
                self.assertEqual(sorted(set(self.started(world))), sorted(self.started(world)))
        for kind, many in self.seen.items():
            self.assertGreater(many, 10, msg=kind)

    def test_with_retry_unload_and_late_threads(self):
        draw = random.Random(41)
        performed = {"retry": 0, "unload": 0}
        for count in range(150):
            programs = drawn_library(draw, draw.randint(2, 5), 6)
            mains = drawn_mains(draw, programs, "uvwxyz")
            world = made(programs, {})
            again = dict.fromkeys(programs, 1)
            while world.can_run() or mains:
                if mains and (draw.random() < 0.1 or not world.can_run()):
                    world.add_thread(*mains.popitem())
                elif draw.random() < 0.1:
                    unloaded = world.unload()
                    performed["unload"] += len(unloaded)
                    for module in unloaded:
                        again[module] += 1
                elif draw.random() < 0.2:
                    for module in self.retried(world):
                        performed["retry"] += 1
                        again[module] += 1
                else:
                    self.watched_act(world, draw.choice(world.can_run()))
                self.check_progress(world)
            for module, most in again.items():
                self.assertLessEqual(self.started(world).count(module), most)
        self.assertGreater(min(performed.values()), 20)

    def retried(self, world):
        """Retry all modules that can be; return their list."""
        found = []
        for module in world.library().modules():
            try:
                world.retry(module)
                found.append(module)
            except RuntimeError:
                pass
        return found


class OneAcyclicRunDecides(Watched):
    def finals(self, programs, mains, draw, count):
        """The worlds at the ends of so many schedules."""
        worlds = []
        for schedule in range(count):
            world = made(programs, mains)
            run(world, choices=[draw.randrange(6) for choice in range(200)])
            worlds.append(world)
        return worlds

    def check(self, programs, mains, draw):
        """Return whether the needs of the first run form no cycle."""
        worlds = self.finals(programs, mains, draw, 8)
        acyclic = [world.recorded().is_acyclic() for world in worlds]
        self.assertEqual(acyclic, acyclic[:1] * len(acyclic))
        if acyclic[0]:
            early = [event for world in worlds for event in world.events() if event[-1] == "early"]
            self.assertEqual(early, [])
            for order in (mains, dict(reversed(mains.items()))):
                self.assertEqual([world.outcome() for world in worlds], [plain_run(Library(programs), order)] * 8)
        return acyclic[0]

    def test_random_worlds(self):
        draw = random.Random(42)
        found = []
        for count in range(200):
            programs = drawn_library(draw, draw.randint(2, 5), 5, is_acyclic=draw.random() < 0.5)
            found.append(self.check(programs, drawn_mains(draw, programs, "uvw"), draw))
        self.assertGreater(found.count(True), 50)
        self.assertGreater(found.count(False), 20)


if __name__ == "__main__":
    unittest.main()
