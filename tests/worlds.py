"""Worlds for the tests."""

from cycleready.library import Library
from cycleready.world import World


def made(programs, **mains):
    """A world with a library of these programs, and threads with these main programs."""
    world = World(Library(programs))
    for name, program in mains.items():
        world.add_thread(name, program)
    return world


def acted(world, threads):
    """The events of the actions of these threads, one letter each."""
    return [world.act(thread) for thread in threads]
