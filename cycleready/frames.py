"""Frames, which execute programs."""

from cycleready.errors import InvalidNumber, WrongStep
from cycleready.programs import bare_program, check_program, is_plain
from cycleready.words import VARIABLES, is_integer


def given_variable(step):
    """Return the variable that gets a given value when a step is passed, or None."""
    if step[0] == "read":
        return step[1]
    return step[2] if step[0] == "try" else None


class Frame:
    """A program, the position of its next step, and the values of its variables."""

    def __init__(self, program):
        check_program(program)
        self.steps = bare_program(program)
        self.position = 0
        self.memory = {variable: 0 for variable in VARIABLES}
        # The positions of the steps that were executed or passed.
        self.visited = []

    def __eq__(self, other):
        return (
            isinstance(other, Frame)
            and self.steps == other.steps
            and self.position == other.position
            and self.memory == other.memory
        )

    def __len__(self):
        return len(self.visited)

    def next_step(self):
        """Return the next step, or None at the end."""
        return None if self.is_over() else self.steps[self.position]

    def next_index(self):
        """Return the position."""
        return self.position

    def variables(self):
        """Return a dict from the variables to their values."""
        return dict(self.memory)

    def is_over(self):
        """Return whether the frame is at its end."""
        return self.position == len(self.steps)

    def move(self, length):
        """Leave the next step and go on by so many steps."""
        self.visited.append(self.position)
        self.position += length

    def run_plain(self):
        """Execute the next step, a plain one."""
        step = self.next_step()
        if not is_plain(step):
            raise WrongStep(self.position)
        kind, variable, item = step
        length = 1
        if kind == "set":
            self.memory[variable] = item
        elif kind == "add":
            self.memory[variable] += self.memory[item]
        elif self.memory[variable] > 0:
            length += item
        self.move(length)

    def pass_step(self, *, value=None):
        """Pass the next step, one that is not plain; a read or a try needs the value that its variable gets."""
        step = self.next_step()
        if step is None or is_plain(step):
            raise WrongStep(self.position)
        variable = given_variable(step)
        if variable is None and value is not None:
            raise InvalidNumber("this step takes no value")
        if variable is not None and not is_integer(value):
            raise InvalidNumber("this step needs an integer as its value")
        if variable is not None:
            self.memory[variable] = int(value)
        self.move(1)

    def clone(self):
        """Return an independent copy."""
        frame = Frame([])
        frame.steps = list(self.steps)
        frame.position = self.position
        frame.memory = dict(self.memory)
        frame.visited = list(self.visited)
        return frame
