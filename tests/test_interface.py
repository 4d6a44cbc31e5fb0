"""The whole interface: every name with its parameters and defaults, where each error is raised, and objects apart."""

import ast
import importlib
import inspect
import pathlib
import unittest

from cycleready.console import Console
from cycleready.frames import Frame
from cycleready.history_text import dump_history, replay
from cycleready.library import Library
from cycleready.needs import Needs
from cycleready.registry import Registry
from cycleready.world import World, run

PACKAGE = pathlib.Path(__file__).resolve().parent.parent / "cycleready"

SIGNATURES = {
    "words": {"is_name": "(value)", "is_integer": "(value)", "is_count": "(value)"},
    "programs": {
        "is_step": "(value)", "is_plain": "(step)", "check_program": "(value, *, is_main=False)", "modules_in": "(program)",
        "step_text": "(step)", "parse_step": "(text)",
    },
    "library": {
        "Library": "(modules)", "Library.of": "(*pairs)", "Library.modules": "(self)", "Library.has_module": "(self, value)",
        "Library.initializer": "(self, module)",
    },
    "library_text": {"library_text": "(library)", "load_library": "(text)"},
    "needs": {
        "Needs": "()", "Needs.of": "(*pairs)", "Needs.record": "(self, source, target)",
        "Needs.delete": "(self, source, target)", "Needs.delete_all": "(self, source)", "Needs.pairs": "(self)",
        "Needs.targets": "(self, name)", "Needs.sources": "(self, name)", "Needs.depends": "(self, one, other)",
        "Needs.closure": "(self, name)", "Needs.group": "(self, name)", "Needs.path": "(self, one, other)",
        "Needs.cycle_through": "(self, name)", "Needs.is_acyclic": "(self)", "Needs.clone": "(self)",
    },
    "frames": {
        "Frame": "(program)", "Frame.next_step": "(self)", "Frame.next_index": "(self)", "Frame.variables": "(self)",
        "Frame.is_over": "(self)", "Frame.run_plain": "(self)", "Frame.pass_step": "(self, *, value=None)",
        "Frame.clone": "(self)",
    },
    "registry": {
        "Registry": "(names)", "Registry.is_state": "(value)", "Registry.names": "(self)", "Registry.state_of": "(self, module)",
        "Registry.in_state": "(self, state)", "Registry.request": "(self, source, target)",
        "Registry.answer": "(self, source, target)", "Registry.access": "(self, source, target)",
        "Registry.export": "(self, module, name, value)", "Registry.exports": "(self, module)",
        "Registry.value_of": "(self, module, name)", "Registry.finish": "(self, module)",
        "Registry.fail": "(self, module, *, because=None)", "Registry.chain": "(self, module)",
        "Registry.is_held": "(self, module)", "Registry.release": "(self, module)", "Registry.retry": "(self, module)",
        "Registry.unload": "(self, *, kept=())", "Registry.needs": "(self)", "Registry.recorded": "(self)",
        "Registry.early": "(self)", "Registry.clone": "(self)",
    },
    "plain": {"plain_run": "(library, mains)", "plain_order": "(library, mains)"},
    "world": {
        "World": "(library)", "World.add_thread": "(self, name, program)", "World.threads": "(self)", "World.library": "(self)",
        "World.act": "(self, thread)", "World.stack": "(self, thread)", "World.status": "(self, thread)",
        "World.variables": "(self, thread)", "World.next_step": "(self, thread)", "World.waits_for": "(self, thread)",
        "World.can_run": "(self)", "World.state_of": "(self, module)", "World.exports": "(self, module)",
        "World.chain": "(self, module)", "World.needs": "(self)", "World.recorded": "(self)", "World.early": "(self)",
        "World.frame_of": "(self, module)", "World.outcome": "(self)", "World.events": "(self)",
        "World.retry": "(self, module)", "World.unload": "(self)", "World.history": "(self)",
        "World.undo": "(self, *, count=1)", "World.clone": "(self)", "run": "(world, *, choices=(), limit=5000)",
    },
    "certificates": {
        "waiting_path": "(world, thread)", "is_waiting_path": "(world, thread, value)",
        "early_path": "(world, source, target)", "is_early_path": "(world, source, target, value)",
        "ready_list": "(world, module)", "is_ready_list": "(world, module, value)",
        "unready_path": "(world, module)", "is_unready_path": "(world, module, value)",
        "failure_chain": "(world, module)", "is_failure_chain": "(world, module, value)",
    },
    "explore": {
        "count_states": "(world, *, limit=2000)", "schedules": "(world, *, limit=2000)",
        "final_outcomes": "(world, *, limit=2000)", "early_pairs": "(world, *, limit=2000)",
        "first_schedule": "(world, source, target, *, limit=2000)", "is_decided": "(world)",
    },
    "history_text": {"dump_history": "(world)", "replay": "(library, text)"},
    "console": {"Console": "(world)", "Console.world": "(self)", "Console.answer": "(self, command)",
                "Console.answer_all": "(self, commands)"},
}
VALUES = {
    "words": {"VARIABLES": ("a", "b", "c", "d")}, "programs": {"MOST_STEPS": 30}, "library": {"MOST_MODULES": 40},
    "world": {"MOST_THREADS": 8}, "explore": {"MAX_STATES": 2000},
}
# The files that raise each error, by the document.
RAISED = {
    "InvalidName": "words", "InvalidProgram": "programs", "InvalidLibrary": "library", "InvalidMains": "plain",
    "InvalidText": "programs library_text history_text", "InvalidModules": "registry", "InvalidNumber": "frames registry console",
    "InvalidChoices": "world", "InvalidUndo": "world", "InvalidCommand": "console", "UnknownModule": "library registry",
    "UnknownThread": "world", "NoNeed": "needs registry", "NameTaken": "world", "WrongStep": "frames",
    "WrongState": "registry world", "MustWait": "registry", "NotWaiting": "certificates", "HasEnded": "world",
    "StillNeeded": "registry world", "CommandFailed": "console", "TooMany": "world explore", "Cyclic": "plain",
}


def found_in(module, path):
    """The function, class or method with a dotted name."""
    thing = importlib.import_module(f"cycleready.{module}")
    for name in path.split("."):
        thing = getattr(thing, name)
    return thing


def raised_in(path):
    """The names of the errors that a file raises."""
    nodes = [node for node in ast.walk(ast.parse(path.read_text())) if isinstance(node, ast.Raise) and node.exc is not None]
    return {node.exc.func.id for node in nodes}


class Names(unittest.TestCase):
    def test_parameters_and_defaults(self):
        for module, rows in SIGNATURES.items():
            for path, expected in rows.items():
                self.assertEqual(str(inspect.signature(found_in(module, path))), expected, msg=f"{module}, {path}")

    def test_functions_and_classes_are_defined_in_their_files(self):
        for module, rows in SIGNATURES.items():
            for path in rows:
                self.assertEqual(found_in(module, path.split(".")[0]).__module__, f"cycleready.{module}")

    def test_values(self):
        for module, rows in VALUES.items():
            for name, expected in rows.items():
                found = found_in(module, name)
                self.assertEqual([found, type(found)], [expected, type(expected)])

    def test_each_file_of_the_package_is_known(self):
        files = sorted(path.stem for path in PACKAGE.glob("*.py"))
        self.assertEqual(files, sorted([*SIGNATURES, "__init__", "errors", "outcomes", "threads"]))

    def test_where_each_error_is_raised(self):
        found = {path.stem: raised_in(path) for path in PACKAGE.glob("*.py")}
        for error, files in RAISED.items():
            self.assertEqual(sorted(name for name in found if error in found[name]), sorted(files.split()), msg=error)
        self.assertEqual(set().union(*found.values()), set(RAISED))


class Apart(unittest.TestCase):
    """Objects of each class that are made from the same values do not know each other."""

    PROGRAMS = {"m": [("need", "n"), ("export", "x", "a")], "n": [("set", "a", 1), ("need", "m")]}

    def check(self, make, change, look):
        one, other, third = make(), make(), make()
        before = look(other)
        change(one)
        self.assertNotEqual(look(one), before)
        self.assertEqual([look(other), look(third)], [before, before])

    def test_each_class(self):
        library = Library(self.PROGRAMS)
        program = [("set", "a", 1), ("set", "b", 2)]
        world = World(library)
        world.add_thread("t", [("need", "m")])
        text = dump_history(world)
        self.check(Needs, lambda needs: needs.record("a", "b"), str)
        self.check(lambda: Frame(program), lambda frame: frame.run_plain(), lambda frame: frame.variables())
        self.check(lambda: Registry(["m", "n"]), lambda registry: registry.request(None, "m"),
                   lambda registry: registry.in_state("new"))
        self.check(lambda: World(library), lambda made: made.add_thread("t", program), lambda made: made.history())
        self.check(world.clone, run, lambda made: made.outcome())
        self.check(lambda: replay(library, text), run, lambda made: made.outcome())
        self.check(lambda: Console(world), lambda console: console.answer("run"), lambda console: console.answer("history"))
        self.assertEqual([library, program], [Library(self.PROGRAMS), [("set", "a", 1), ("set", "b", 2)]])
        self.assertEqual(len(world), 1)


if __name__ == "__main__":
    unittest.main()
