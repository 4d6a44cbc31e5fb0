"""The rows of an outcome: what became of a module, and of a main program."""

from cycleready.words import VARIABLES


def module_row(module, state, exports):
    """Return the row of a module with a dict of its exports."""
    return (module, state, tuple([(name, exports[name]) for name in sorted(exports)]))


def main_row(name, status, variables):
    """Return the row of a main program with a dict of its variables."""
    return (name, status, tuple([variables[variable] for variable in VARIABLES]))
