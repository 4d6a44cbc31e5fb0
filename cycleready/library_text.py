"""The text of a library: written, and read again."""

from cycleready.errors import InvalidText
from cycleready.library import MOST_MODULES, Library
from cycleready.programs import MOST_STEPS, is_step_before, parse_step, step_text
from cycleready.words import is_name


def library_text(library):
    """Return the text of a library."""
    lines = []
    for module in library.modules():
        lines.append(f"module {module}\n")
        lines += [f"  {step_text(step)}\n" for step in library.initializer(module)]
    return "".join(lines)


def lines_in(text):
    """Return the list of the lines of a text; a last line without line feed is one of them."""
    lines = text.split("\n")
    return lines if lines[-1] != "" else lines[:-1]


def named_module(line):
    """Return the name in a line `module NAME`, or None for any other line."""
    word, space, name = line.partition(" ")
    return name if word == "module" and is_name(name) else None


def step_lines_after(lines, at):
    """Return the list of the step lines of the line with this index."""
    step_lines = []
    for line in lines[at + 1:]:
        if not line.startswith("  "):
            break
        step_lines.append(line)
    return step_lines


def parse_step_lines(step_lines, first_number, modules, is_main):
    """Return the list of the steps in step lines, of which the first has this number; a main program has no export."""
    steps = []
    for position, line in enumerate(step_lines):
        try:
            step = parse_step(line.removeprefix("  "))
        except InvalidText:
            raise InvalidText(first_number + position) from None
        is_valid = is_step_before(step, len(step_lines) - position - 1, modules)
        if position >= MOST_STEPS or not is_valid or (is_main and step[0] == "export"):
            raise InvalidText(first_number + position)
        steps.append(step)
    return steps


def load_library(text):
    """Return the library with this text."""
    if not isinstance(text, str):
        raise InvalidText(0)
    lines = lines_in(text)
    # A line `module NAME` makes its module known in the whole text, even if the line itself is wrong.
    known = [named_module(line) for line in lines]
    initializers = {}
    previous = ""
    at = 0
    while at < len(lines):
        name = known[at]
        if name is None or name <= previous or len(initializers) == MOST_MODULES:
            raise InvalidText(at + 1)
        step_lines = step_lines_after(lines, at)
        initializers[name] = parse_step_lines(step_lines, at + 2, known, False)
        previous = name
        at += 1 + len(step_lines)
    # Only the last line can lack its line feed, so every other line is looked at before it.
    if not text.endswith("\n"):
        raise InvalidText(max(len(lines), 1))
    return Library(initializers)
