"""Plain runs: main programs one after another, each needed module's initializer at its first need, to the end."""

from cycleready.errors import Cyclic, InvalidMains, InvalidProgram
from cycleready.frames import Frame
from cycleready.outcomes import main_row, module_row
from cycleready.programs import check_steps, is_plain
from cycleready.words import bare_word, is_name

MOST_MAINS = 8


class PlainRun:
    """The modules of a library during a plain run."""

    def __init__(self, library):
        self.known_library = library
        # The modules whose initializers have been started and have not ended; each has started the next one.
        self.started = []
        # The states of the modules whose initializers have ended, in the order in which they have.
        self.results = {}
        self.exported = {}

    def initialize(self, module):
        """Run the initializer of a module if this is its first need; return whether the module is ready."""
        if module in self.started:
            raise Cyclic(self.started[self.started.index(module):])
        if module not in self.results:
            self.exported[module] = {}
            self.started.append(module)
            is_ended = self.execute(module, Frame(self.known_library.initializer(module)))
            self.started.pop()
            self.results[module] = "ready" if is_ended else "failed"
            if not is_ended:
                self.exported[module] = {}
        return self.results[module] == "ready"

    def execute(self, module, frame):
        """Run the initializer of a module, or a main program for None; return whether it came to its end."""
        # The modules from which this program may read.
        readable = {module: True}
        while not frame.is_over():
            step = frame.next_step()
            if is_plain(step):
                frame.run_plain()
            elif step[0] == "export":
                self.exported[module][step[1]] = frame.variables()[step[2]]
                frame.pass_step()
            elif step[0] == "read":
                frame.pass_step(value=self.exported[step[2]].get(step[3], -1) if step[2] in readable else -1)
            elif step[0] == "fail" or not self.get_past(frame, readable):
                return False
        return True

    def get_past(self, frame, readable):
        """Do the next step of a frame, a need or a try; return whether the program goes on after it."""
        step = frame.next_step()
        is_ready = self.initialize(step[1])
        if is_ready:
            readable[step[1]] = True
        if step[0] == "try":
            frame.pass_step(value=int(is_ready))
        elif is_ready:
            frame.pass_step()
        return is_ready or step[0] == "try"


def check_mains(library, mains):
    """Raise InvalidMains for a value that is not a dict of main programs with modules of this library."""
    if not isinstance(mains, dict) or len(mains) > MOST_MAINS:
        raise InvalidMains(None, -1)
    for name in mains:
        if not is_name(name):
            raise InvalidMains(name, -1)
        try:
            check_steps(mains[name], True, library.modules())
        except InvalidProgram as error:
            raise InvalidMains(name, error.position) from None


def run_mains(library, mains):
    """Run main programs; return the plain run, and the sorted list of the rows of the main programs."""
    check_mains(library, mains)
    plain = PlainRun(library)
    rows = []
    for name in mains:
        frame = Frame(mains[name])
        status = "ended" if plain.execute(None, frame) else "failed"
        rows.append(main_row(bare_word(name), status, frame.variables()))
    return plain, sorted(rows)


def plain_run(library, mains):
    """Return the outcome of a plain run of main programs."""
    plain, rows = run_mains(library, mains)
    modules = [module_row(module, plain.results[module], plain.exported[module]) for module in sorted(plain.results)]
    return (tuple(modules), tuple(rows))


def plain_order(library, mains):
    """Return the list of the modules in the order in which they became ready or failed in the plain run."""
    plain, rows = run_mains(library, mains)
    return list(plain.results)
