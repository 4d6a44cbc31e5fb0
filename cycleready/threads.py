"""Threads: a main program and a stack of initializers, each of them at some step."""

from cycleready.frames import Frame
from cycleready.words import VARIABLES


class Execution:
    """A program that is executed: the initializer of a module, or a main program, whose module is None."""

    def __init__(self, module, program):
        self.module = module
        self.frame = Frame(program)
        # Whether the next step, a need or a try, was requested.
        self.requested = False
        # The modules that this program has accessed; each has the value True.
        self.accessed = {}

    def __eq__(self, other):
        return (
            isinstance(other, Execution)
            and self.module == other.module
            and self.frame == other.frame
            and self.requested == other.requested
            and self.accessed == other.accessed
        )

    def fingerprint(self):
        """Return a list of all that actions change, which shows in the same way if it is equal."""
        variables = self.frame.variables()
        values = [variables[variable] for variable in VARIABLES]
        return [self.module, self.frame.next_index(), values, self.requested, sorted(self.accessed)]

    def can_read(self, module):
        """Return whether this program gets the values that a module exports."""
        return module == self.module or module in self.accessed

    def requested_module(self):
        """Return the module that the next step needs, if this was requested, or None."""
        return self.frame.next_step()[1] if self.requested else None

    def clone(self):
        """Return an independent copy."""
        execution = Execution(self.module, [])
        execution.frame = self.frame.clone()
        execution.requested = self.requested
        execution.accessed = dict(self.accessed)
        return execution


class Thread:
    """A main program, the initializers that were started for it, and whether it is running, ended or failed."""

    def __init__(self, program):
        self.main = Execution(None, program)
        # The lowest one comes first.
        self.stacked = []
        self.phase = "running"
        # The modules that the main program has ever requested; each has the value True.
        self.asked = {}

    def __eq__(self, other):
        return (
            isinstance(other, Thread)
            and self.main == other.main
            and self.stacked == other.stacked
            and self.phase == other.phase
            and self.asked == other.asked
        )

    def fingerprint(self):
        """Return a list of all that actions change, which shows in the same way if it is equal."""
        stack = [execution.fingerprint() for execution in self.stacked]
        return [self.main.fingerprint(), stack, self.phase, sorted(self.asked)]

    def is_running(self):
        """Return whether the thread has not ended."""
        return self.phase == "running"

    def top(self):
        """Return the execution of the top program."""
        return self.stacked[-1] if len(self.stacked) > 0 else self.main

    def clone(self):
        """Return an independent copy."""
        thread = Thread([])
        thread.main = self.main.clone()
        thread.stacked = [execution.clone() for execution in self.stacked]
        thread.phase = self.phase
        thread.asked = dict(self.asked)
        return thread
