"""Steps and programs: what they look like, which modules occur in them, and the text of a step."""

from cycleready.errors import InvalidProgram, InvalidText
from cycleready.words import bare_word, is_decimal, is_integer, is_name, is_variable

MOST_STEPS = 30

# For each kind of step, the kinds of the items that follow it in the tuple.
SHAPES = {
    "set": ("variable", "integer"),
    "add": ("variable", "variable"),
    "skip": ("variable", "length"),
    "export": ("name", "variable"),
    "read": ("variable", "module", "name"),
    "need": ("module",),
    "try": ("module", "variable"),
    "fail": (),
}
PLAIN_STEPS = ("set", "add", "skip")
NUMBERS = ("integer", "length")


def is_item(value, kind):
    """Return whether a value may stand in a step as an item of this kind."""
    if kind == "variable":
        return is_variable(value)
    if kind == "integer":
        return is_integer(value)
    if kind == "length":
        return is_integer(value) and value >= 1
    return is_name(value)


def is_step(value):
    """Return whether a value is a step."""
    if not isinstance(value, tuple) or len(value) == 0:
        return False
    # Only a string is looked up: other values may not be fit to be looked up at all.
    if not isinstance(value[0], str) or value[0] not in SHAPES:
        return False
    shape = SHAPES[value[0]]
    if len(value) != len(shape) + 1:
        return False
    return all([is_item(item, kind) for item, kind in zip(value[1:], shape)])


def is_plain(step):
    """Return whether a value is a plain step: set, add or skip."""
    return is_step(step) and step[0] in PLAIN_STEPS


def step_modules(step):
    """Return the list of the modules that occur in a step."""
    return [item for item, kind in zip(step[1:], SHAPES[step[0]]) if kind == "module"]


def is_step_before(value, steps_after, modules):
    """Return whether a value is a step that skips at most so many steps and has only these modules, or any for None."""
    if not is_step(value) or (value[0] == "skip" and value[2] > steps_after):
        return False
    return modules is None or all([module in modules for module in step_modules(value)])


def check_steps(value, is_main, modules):
    """Raise InvalidProgram as check_program, and for a step with a module that is not among these, if not None."""
    if not isinstance(value, list) or len(value) > MOST_STEPS:
        raise InvalidProgram(-1)
    for position, step in enumerate(value):
        if not is_step_before(step, len(value) - position - 1, modules):
            raise InvalidProgram(position)
        if is_main is True and step[0] == "export":
            raise InvalidProgram(position)


def check_program(value, *, is_main=False):
    """Raise InvalidProgram for a value that is not an initializer, or, if is_main is True, not a main program."""
    check_steps(value, is_main, None)


def modules_in(program):
    """Return the sorted list of the modules that occur in the steps of a program."""
    check_program(program)
    return sorted({module for step in program for module in step_modules(step)})


def bare_item(item):
    """Return an item of a step as a plain string or integer."""
    return bare_word(item) if isinstance(item, str) else int(item)


def bare_program(program):
    """Return a new list of the steps of a program, as plain tuples of plain items."""
    return [tuple([bare_item(item) for item in step]) for step in program]


def step_text(step):
    """Return the text of a step."""
    if not is_step(step):
        raise InvalidProgram(0)
    return " ".join([str(bare_item(item)) for item in step])


def parse_item(word, kind):
    """Return the item that a word stands for in the text of a step."""
    # A word that is no number stays a string, which is_step then rejects in a number's place.
    return int(word) if kind in NUMBERS and is_decimal(word) else word


def parse_step(text):
    """Return the step with this text."""
    if not isinstance(text, str):
        raise InvalidText(1)
    first, *words = text.split(" ")
    shape = SHAPES.get(first, ())
    if len(words) != len(shape):
        raise InvalidText(1)
    items = [parse_item(word, kind) for word, kind in zip(words, shape)]
    step = (first, *items)
    if not is_step(step):
        raise InvalidText(1)
    return step
