"""All errors of the package."""


def copied(value):
    """Return a value that is equal to the given one and shares no list and no dict with it."""
    # An error outlives the call that raised it: what it tells must not change with the argument.
    if isinstance(value, list):
        return [copied(item) for item in value]
    if isinstance(value, tuple):
        return tuple([copied(item) for item in value])
    if isinstance(value, dict):
        return {key: copied(value[key]) for key in value}
    return value


class LoaderError(ValueError):
    """A value that is passed to the package is not what it must be."""


class InvalidName(LoaderError):
    """A value is not a name."""

    def __init__(self, value):
        super().__init__("not a string of one to eight characters from a to z")
        self.value = copied(value)


class InvalidProgram(LoaderError):
    """A value is not a program; the position is that of the first wrong step, or -1."""

    def __init__(self, position):
        super().__init__(f"not a program, position {position}")
        self.position = position


class InvalidLibrary(LoaderError):
    """A value is not a library; module and position say where, or are None and -1."""

    def __init__(self, module, position):
        super().__init__(f"not a library, position {position} of a module")
        self.module = copied(module)
        self.position = position


class InvalidMains(LoaderError):
    """A value is not a dict of main programs; name and position say where, or are None and -1."""

    def __init__(self, name, position):
        super().__init__(f"not a dict of main programs, position {position} of a program")
        self.name = name
        self.position = position


class InvalidText(LoaderError):
    """A value is not a text of the required form; line is the number of the first wrong line."""

    def __init__(self, line):
        super().__init__(f"not a text of the required form, line {line}")
        self.line = line


class InvalidModules(LoaderError):
    """A value is not a list or tuple of modules; created with a message."""


class InvalidNumber(LoaderError):
    """A value is not a number of the required kind; created with a message."""


class InvalidChoices(LoaderError):
    """A value is not a list or tuple of counts; created with a message."""


class InvalidUndo(LoaderError):
    """A value is not a number of operations that can be taken back; created with a message."""


class InvalidCommand(LoaderError):
    """A value is not a command of a console; created with a message."""


class UnknownModule(LookupError):
    """A value is not a module of the registry or world."""

    def __init__(self, value):
        super().__init__("no such module")
        self.value = copied(value)


class UnknownThread(LookupError):
    """A value is not a thread of the world."""

    def __init__(self, value):
        super().__init__("no such thread")
        self.value = copied(value)


class NoNeed(LookupError):
    """Source and target are not a recorded need."""

    def __init__(self, source, target):
        super().__init__("this need is not recorded")
        self.source = copied(source)
        self.target = copied(target)


class NameTaken(KeyError):
    """There is a thread of this name already."""

    def __init__(self, name):
        super().__init__("there is a thread of this name already")
        self.name = name


class WrongStep(RuntimeError):
    """The next step of a frame is not of the required kind; the position is that of the frame."""

    def __init__(self, position):
        super().__init__(f"the step at position {position} is of another kind")
        self.position = position


class WrongState(RuntimeError):
    """A module is not in a required state, but in the one that was found."""

    def __init__(self, module, found):
        super().__init__(f"the module is in the wrong state, {found}")
        self.module = module
        self.found = found


class MustWait(RuntimeError):
    """The source, None for a main program, has to wait for the target."""

    def __init__(self, source, target):
        super().__init__("the program has to wait for a module")
        self.source = source
        self.target = target


class NotWaiting(RuntimeError):
    """A thread does not wait."""

    def __init__(self, thread):
        super().__init__("the thread does not wait")
        self.thread = thread


class HasEnded(RuntimeError):
    """A thread has ended."""

    def __init__(self, thread):
        super().__init__("the thread has ended")
        self.thread = thread


class StillNeeded(RuntimeError):
    """A module cannot be retried, because a program still needs it."""

    def __init__(self, module):
        super().__init__("the module is still needed")
        self.module = module


class CommandFailed(RuntimeError):
    """A command of several raised an error; position says which, answers are those before it."""

    def __init__(self, position, answers):
        super().__init__(f"the command at position {position} failed")
        self.position = position
        self.answers = copied(answers)


class TooMany(ArithmeticError):
    """There are more of something than the limit."""

    def __init__(self, limit):
        super().__init__(f"more than {limit}")
        self.limit = limit


class Cyclic(ArithmeticError):
    """Modules need each other in a cycle where this cannot be."""

    def __init__(self, cycle):
        super().__init__("modules need each other in a cycle")
        self.cycle = copied(cycle)
