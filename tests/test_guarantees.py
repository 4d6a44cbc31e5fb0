"""The guarantees [4], in worlds that are drawn at random, under many schedules."""

import random
import unittest

from cycleready.certificates import (
    early_path,
    failure_chain,
    is_early_path,
    is_failure_chain,
    is_ready_list,
    is_unready_path,
    is_waiting_path,
    ready_list,
    unready_path,
    waiting_path,
)
from cycleready.explore import is_decided
from cycleready.history_text import dump_history, replay
from cycleready.library import Library
from cycleready.plain import plain_run
from cycleready.world import run
from drawn import drawn_library, drawn_program
from worlds import made

MOST_ACTIONS = 3000


def drawn_mains(draw, programs, names):
    return {name: drawn_program(draw, sorted(programs), 5, is_main=True) for name in names}


def snapshot(world):
    """The states, exports, needs and early accesses before an action."""
    modules = world.library().modules()
    return {
        "states": {module: world.state_of(module) for module in modules},
        "exports": {module: world.exports(module) for module in modules},
        "needs": world.needs(),
        "early": world.early(),
    }


class Watched(unittest.TestCase):
    """Performs actions, and checks after each one what holds between the states before and after it."""

    def check_progress(self, world):
        unfinished = [name for name in world.threads() if world.status(name) == "running"]
        self.assertEqual(world.can_run() == [], unfinished == [])

    def check_waiting(self, world):
        """A program waits only for a module that is not complete and that does not depend on the program's module."""
        for thread in world.threads():
            target = world.waits_for(thread)
            if target is None:
                continue
            source = world.stack(thread)[-1] if world.stack(thread) else None
            self.assertIn(world.state_of(target), ("running", "done"))
            self.assertFalse(source is not None and world.needs().depends(target, source))
            self.assertNotIn((source, target), world.early())
            self.seen["waiting"] += 1
            self.assertTrue(is_waiting_path(world, thread, waiting_path(world, thread)))

    def check_certified(self, world):
        """Each module that is ready, done or failed, and each possible early access has a certificate."""
        for module in world.library().modules():
            state = world.state_of(module)
            if state == "ready":
                self.assertTrue(is_ready_list(world, module, ready_list(world, module)))
            elif state == "done":
                self.assertTrue(is_unready_path(world, module, unready_path(world, module)))
            elif state == "failed":
                self.assertTrue(is_failure_chain(world, module, failure_chain(world, module)))
        for source, target in world.needs().pairs():
            if world.state_of(source) == "running":
                path = early_path(world, source, target)
                depends = world.needs().depends(target, source)
                self.assertEqual(path is not None, depends and world.state_of(target) in ("running", "done"))
                self.assertIs(is_early_path(world, source, target, path), path is not None)

    def check_ready_modules(self, world, before):
        for module, state in before["states"].items():
            if state == "ready":
                self.assertEqual(world.state_of(module), "ready")
                self.assertEqual(world.exports(module), before["exports"][module])
        for module in world.library().modules():
            if world.state_of(module) == "ready":
                for other in world.needs().closure(module):
                    self.assertEqual(world.state_of(other), "ready")

    def check_continue(self, world, before, event):
        kind, thread, module, target, answer = event
        if answer == "ready":
            for other in before["needs"].closure(target):
                self.assertEqual(before["states"][other], "ready")
        elif answer == "early":
            self.assertIn(before["states"][target], ("running", "done"))
            if (module, target) not in before["early"]:
                self.assertTrue(before["needs"].depends(module, target) and before["needs"].depends(target, module))
                self.seen["early"] += 1
        else:
            self.assertEqual(before["states"][target], "failed")

    def check_finish(self, before, event):
        """Modules that depend on each other become ready at the same moment, and none before one that it looked at."""
        ready = event[3]
        self.seen["together"] += len(ready) > 1
        after_all = {module for module in before["states"] if before["states"][module] == "ready"} | set(ready)
        for module in ready:
            self.assertLessEqual(set(before["needs"].group(module)), after_all)
            for source, target in before["early"]:
                if source == module:
                    self.assertIn(target, after_all)

    def check_fail(self, world, before, event):
        """Exactly the module itself and those that looked at a failed one, directly or not, fail."""
        kind, thread, module, failed = event
        expected = set() if module is None else {module}
        for count in before["states"]:
            expected |= {source for source, target in before["early"] if target in expected}
        self.assertEqual(list(failed), sorted(expected))
        self.seen["together failed"] += len(failed) > 1
        for other, state in before["states"].items():
            self.assertEqual(world.state_of(other), "failed" if other in expected else state)

    def watched_act(self, world, thread):
        before = snapshot(world)
        event = world.act(thread)
        self.check_ready_modules(world, before)
        if event[0] == "continue":
            self.check_continue(world, before, event)
        elif event[0] == "finish":
            self.check_finish(before, event)
        elif event[0] == "fail":
            self.check_fail(world, before, event)
        self.check_state(world)
        return event

    def check_state(self, world):
        self.check_progress(world)
        self.check_waiting(world)
        self.check_certified(world)

    def watched_run(self, world, draw):
        self.check_state(world)
        for count in range(MOST_ACTIONS):
            if not world.can_run():
                return
            self.watched_act(world, draw.choice(world.can_run()))
        self.fail("the schedule does not end")

    def setUp(self):
        self.seen = {"early": 0, "together": 0, "together failed": 0, "waiting": 0}


class RandomWorlds(Watched):
    def started(self, world):
        return [event[3] for event in world.events() if event[0] == "request" and event[4]]

    def test_each_action(self):
        draw = random.Random(40)
        for count in range(160):
            programs = drawn_library(draw, draw.randint(2, 5), 6)
            mains = drawn_mains(draw, programs, "uvw")
            for schedule in range(3):
                world = made(programs, **mains)
                self.watched_run(world, draw)
                self.assertEqual(sorted(set(self.started(world))), sorted(self.started(world)))
        for kind, many in self.seen.items():
            self.assertGreater(many, 10, msg=kind)

    def test_with_retry_unload_and_late_threads(self):
        draw = random.Random(41)
        performed = {"retry": 0, "unload": 0}
        for count in range(150):
            programs = drawn_library(draw, draw.randint(2, 5), 6)
            mains = drawn_mains(draw, programs, "uvwxyz")
            world = made(programs)
            again = dict.fromkeys(programs, 1)
            while world.can_run() or mains:
                if mains and (draw.random() < 0.1 or not world.can_run()):
                    world.add_thread(*mains.popitem())
                elif draw.random() < 0.1:
                    unloaded = world.unload()
                    performed["unload"] += len(unloaded)
                    for module in unloaded:
                        again[module] += 1
                elif draw.random() < 0.2:
                    for module in self.retried(world):
                        performed["retry"] += 1
                        again[module] += 1
                else:
                    self.watched_act(world, draw.choice(world.can_run()))
                self.check_state(world)
            self.check_replayed(world)
            for module, most in again.items():
                self.assertLessEqual(self.started(world).count(module), most)
        self.assertGreater(min(performed.values()), 20)

    def check_replayed(self, world):
        other = replay(world.library(), dump_history(world))
        self.assertIs(other == world, True)
        self.assertEqual([other.events(), other.history()], [world.events(), world.history()])

    def retried(self, world):
        """Retry all modules that can be; return their list."""
        found = []
        for module in world.library().modules():
            try:
                world.retry(module)
                found.append(module)
            except RuntimeError:
                pass
        return found


class OneAcyclicRunDecides(Watched):
    def finals(self, programs, mains, draw, count):
        """The worlds at the ends of so many schedules."""
        worlds = []
        for schedule in range(count):
            world = made(programs, **mains)
            run(world, choices=[draw.randrange(6) for choice in range(200)])
            worlds.append(world)
        return worlds

    def check(self, programs, mains, draw):
        """Return whether the needs of the first run form no cycle."""
        worlds = self.finals(programs, mains, draw, 8)
        acyclic = [world.recorded().is_acyclic() for world in worlds]
        self.assertEqual(acyclic, acyclic[:1] * len(acyclic))
        self.assertEqual([is_decided(world) for world in worlds], acyclic)
        if acyclic[0]:
            early = [event for world in worlds for event in world.events() if event[-1] == "early"]
            self.assertEqual(early, [])
            for order in (mains, dict(reversed(mains.items()))):
                self.assertEqual([world.outcome() for world in worlds], [plain_run(Library(programs), order)] * 8)
        return acyclic[0]

    def test_random_worlds(self):
        draw = random.Random(42)
        found = []
        for count in range(200):
            programs = drawn_library(draw, draw.randint(2, 5), 5, is_acyclic=draw.random() < 0.5)
            found.append(self.check(programs, drawn_mains(draw, programs, "uvw"), draw))
        self.assertGreater(found.count(True), 50)
        self.assertGreater(found.count(False), 20)


if __name__ == "__main__":
    unittest.main()
