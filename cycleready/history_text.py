"""The text of a history: written, and performed again."""

from cycleready.errors import (
    HasEnded,
    InvalidText,
    MustWait,
    StillNeeded,
    UnknownModule,
    UnknownThread,
    WrongState,
)
from cycleready.library_text import lines_in, parse_step_lines, step_lines_after
from cycleready.programs import step_text
from cycleready.words import is_name
from cycleready.world import MOST_THREADS, World


def operation_lines(operation):
    """Return the list of the lines of an operation."""
    if operation[0] != "thread":
        return [" ".join(operation) + "\n"]
    kind, name, program = operation
    return [f"thread {name}\n"] + [f"  {step_text(step)}\n" for step in program]


def dump_history(world):
    """Return the text of the history."""
    return "".join([line for operation in world.history() for line in operation_lines(operation)])


def replay_thread(world, name, step_lines, number):
    """Add the thread of the line with this number and of its step lines."""
    if not is_name(name) or name in world.threads() or len(world.threads()) >= MOST_THREADS:
        raise InvalidText(number)
    world.add_thread(name, parse_step_lines(step_lines, number + 1, world.library().modules(), True))


def replay_line(world, line, number):
    """Perform the operation of a line with this number that does not begin a thread."""
    words = line.split(" ")
    is_operation = line == "unload" or (len(words) == 2 and words[0] in ("act", "retry"))
    if not is_operation:
        raise InvalidText(number)
    try:
        world.perform(tuple(words))
    except (UnknownThread, HasEnded, MustWait, UnknownModule, WrongState, StillNeeded):
        raise InvalidText(number) from None


def replay(library, text):
    """Return a new world with the operations of a text performed."""
    if not isinstance(text, str):
        raise InvalidText(0)
    lines = lines_in(text)
    world = World(library)
    at = 0
    while at < len(lines):
        word, space, name = lines[at].partition(" ")
        step_lines = []
        if word == "thread":
            step_lines = step_lines_after(lines, at)
            replay_thread(world, name, step_lines, at + 1)
        else:
            replay_line(world, lines[at], at + 1)
        at += 1 + len(step_lines)
    # Only the last line can lack its line feed, so every other line is looked at before it.
    if len(lines) > 0 and not text.endswith("\n"):
        raise InvalidText(len(lines))
    return world
