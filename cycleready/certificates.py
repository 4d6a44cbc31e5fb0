"""Certificates: short lists that show why a thread waits, why an access is early, and what became of a module."""

from cycleready.errors import NotWaiting
from cycleready.words import is_name


def is_list_of_names(value):
    """Return whether a value is a list of different names."""
    if not isinstance(value, list) or not all([is_name(item) for item in value]):
        return False
    return len(set(value)) == len(value)


def first_path(needs, one, ends):
    """Return the shortest path from a name to one of these ends, of these the first in sorted order, or None."""
    for path in needs.shortest_paths(one):
        if path[-1] in ends:
            return path
    return None


def is_path(needs, value, one, ends):
    """Return whether a value is a path from a name to one of these ends."""
    if not is_list_of_names(value) or len(value) == 0 or value[0] != one or value[-1] not in ends:
        return False
    return all([needs.is_need(source, target) for source, target in zip(value, value[1:])])


def awaited_module(world, thread):
    """Return the module for which a thread waits."""
    target = world.waits_for(thread)
    if target is None:
        raise NotWaiting(thread)
    return target


def active_modules(world):
    """Return the list of the modules that are the highest on the stack of a thread that can run."""
    stacks = [world.stack(thread) for thread in world.can_run()]
    return [stack[-1] for stack in stacks if len(stack) > 0]


def waiting_path(world, thread):
    """Return a path from the module for which a thread waits to one that is the highest of a thread that can run."""
    return first_path(world.needs(), awaited_module(world, thread), active_modules(world))


def is_waiting_path(world, thread, value):
    """Return whether a value is a certificate of a thread that waits."""
    return is_path(world.needs(), value, awaited_module(world, thread), active_modules(world))


def is_early(world, source, target):
    """Return whether the answer to a running module that has recorded its need is "early"."""
    # A registry takes None for a main program, but only modules access early.
    world.state_of(source)
    return world.registry.answer(source, target) == "early"


def early_path(world, source, target):
    """Return a path from the target of an early access to its source, or None."""
    return world.needs().path(target, source) if is_early(world, source, target) else None


def is_early_path(world, source, target, value):
    """Return whether a value is a certificate of an early access."""
    return is_early(world, source, target) and is_path(world.needs(), value, target, [source])


def check_module(world, module, state):
    """Raise UnknownModule for a value that is not a module, or WrongState if it is not in this state."""
    world.registry.check_state(world.registry.known(module), state)


def ready_list(world, module):
    """Return the sorted list of all modules that a ready module depends on."""
    check_module(world, module, "ready")
    return world.needs().closure(module)


def is_ready_list(world, module, value):
    """Return whether a value is a certificate of a ready module."""
    check_module(world, module, "ready")
    if not is_list_of_names(value) or module not in value:
        return False
    ready = world.registry.in_state("ready")
    needs = world.needs()
    return all([other in ready for other in value]) and all(
        [target in value for other in value for target in needs.targets(other)]
    )


def unready_modules(world):
    """Return the list of the modules that are running or failed."""
    return world.registry.in_state("running") + world.registry.in_state("failed")


def unready_path(world, module):
    """Return a path from a done module to one that is running or failed."""
    check_module(world, module, "done")
    return first_path(world.needs(), module, unready_modules(world))


def is_unready_path(world, module, value):
    """Return whether a value is a certificate of a done module."""
    check_module(world, module, "done")
    return is_path(world.needs(), value, module, unready_modules(world))


def failure_chain(world, module):
    """Return the chain of a failed module."""
    return world.chain(module)


def is_failure_chain(world, module, value):
    """Return whether a value is the chain of a failed module."""
    chain = world.chain(module)
    # The items are looked at before they are compared: a foreign object could claim to be equal to a name.
    return isinstance(value, list) and all([is_name(item) for item in value]) and value == chain
