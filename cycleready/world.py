"""Worlds: threads that initialize the modules of a library on first use."""

from cycleready.errors import (
    HasEnded,
    InvalidChoices,
    InvalidUndo,
    NameTaken,
    StillNeeded,
    TooMany,
    UnknownThread,
    WrongState,
)
from cycleready.outcomes import main_row, module_row
from cycleready.programs import bare_program, check_steps, is_plain
from cycleready.registry import Registry
from cycleready.threads import Execution, Thread
from cycleready.words import bare_word, check_name, is_count, is_name

MOST_THREADS = 8


class World:
    """A library, a registry of its modules, and threads; with all operations that were performed."""

    def __init__(self, library):
        self.known_library = library
        self.registry = Registry(library.modules())
        self.crew = {}
        self.operations = []
        self.reports = []

    def __eq__(self, other):
        return (
            isinstance(other, World)
            and self.known_library == other.known_library
            and self.registry == other.registry
            and self.crew == other.crew
        )

    def __len__(self):
        return len(self.operations)

    def fingerprint(self):
        """Return a string that is the same for equal worlds, and only for them, among those with the same programs."""
        threads = [self.crew[name].fingerprint() for name in sorted(self.crew)]
        return repr([self.registry.fingerprint(), threads])

    def add_thread(self, name, program):
        """Add a thread with a main program."""
        check_name(name)
        if name in self.crew:
            raise NameTaken(bare_word(name))
        check_steps(program, True, self.registry.names())
        if len(self.crew) >= MOST_THREADS:
            raise TooMany(MOST_THREADS)
        steps = bare_program(program)
        self.crew[bare_word(name)] = Thread(steps)
        self.operations.append(("thread", bare_word(name), tuple(steps)))

    def threads(self):
        """Return the sorted list of the threads."""
        return sorted(self.crew)

    def library(self):
        """Return the library."""
        return self.known_library

    def known_thread(self, value):
        """Return the thread of which a value is the name."""
        if not is_name(value) or value not in self.crew:
            raise UnknownThread(value)
        return self.crew[value]

    def is_failed(self, execution):
        """Return whether the module of a program is failed."""
        return execution.module is not None and self.registry.state_of(execution.module) == "failed"

    def awaited(self, thread):
        """Return the module for which a thread waits, or None."""
        top = thread.top()
        target = top.requested_module()
        if target is None or not thread.is_running() or self.is_failed(top):
            return None
        return target if self.registry.answer(top.module, target) == "wait" else None

    def act(self, thread):
        """Perform the action of a thread and return its event."""
        actor = self.known_thread(thread)
        name = bare_word(thread)
        if not actor.is_running():
            raise HasEnded(name)
        event = self.perform_action(name, actor)
        self.operations.append(("act", name))
        self.reports.append(event)
        return event

    def perform_action(self, name, thread):
        """Perform the first action that applies and return its event."""
        top = thread.top()
        step = top.frame.next_step()
        if self.is_failed(top):
            thread.stacked.pop()
            self.registry.release(top.module)
            return ("remove", name, top.module)
        if step is None:
            return self.end_program(name, thread)
        if step[0] == "fail":
            return self.fail_program(name, thread, None)
        if step[0] not in ("need", "try"):
            return self.execute_step(name, top)
        if not top.requested:
            return self.request_module(name, thread)
        return self.access_module(name, thread)

    def end_program(self, name, thread):
        """End the top program, which is at its end."""
        module = thread.top().module
        if module is None:
            thread.phase = "ended"
            return ("end", name)
        thread.stacked.pop()
        return ("finish", name, module, tuple(self.registry.finish(module)))

    def fail_program(self, name, thread, because):
        """Make the top program fail, because of a failed module or, for None, by itself."""
        module = thread.top().module
        if module is None:
            thread.phase = "failed"
            return ("fail", name, None, ())
        return ("fail", name, module, tuple(self.registry.fail(module, because=because)))

    def execute_step(self, name, execution):
        """Execute the next step of a program, which is plain, export or read."""
        module = execution.module
        frame = execution.frame
        step = frame.next_step()
        if is_plain(step):
            frame.run_plain()
        elif step[0] == "export":
            self.registry.export(module, step[1], frame.variables()[step[2]])
            frame.pass_step()
        else:
            source = step[2]
            frame.pass_step(value=self.registry.value_of(source, step[3]) if execution.can_read(source) else -1)
        return ("step", name, module, step)

    def request_module(self, name, thread):
        """Request the module that the next step of the top program needs."""
        top = thread.top()
        target = top.frame.next_step()[1]
        started = self.registry.request(top.module, target)
        top.requested = True
        if top.module is None:
            thread.asked[target] = True
        if started:
            thread.stacked.append(Execution(target, self.known_library.initializer(target)))
        return ("request", name, top.module, target, started)

    def access_module(self, name, thread):
        """Access the module that the top program has requested."""
        top = thread.top()
        kind, target = top.frame.next_step()[:2]
        # If the thread waits, this raises MustWait, before anything has changed.
        answer = self.registry.access(top.module, target)
        if answer == "failed" and kind == "need":
            return self.fail_program(name, thread, target)
        top.requested = False
        if answer != "failed":
            top.accessed[target] = True
        top.frame.pass_step(value=int(answer != "failed") if kind == "try" else None)
        return ("continue", name, top.module, target, answer)

    def stack(self, thread):
        """Return the list of the modules on the stack of a thread, the lowest first."""
        return [execution.module for execution in self.known_thread(thread).stacked]

    def status(self, thread):
        """Return "running", "ended" or "failed"."""
        return self.known_thread(thread).phase

    def variables(self, thread):
        """Return a dict of the variables of a thread's main program."""
        return self.known_thread(thread).main.frame.variables()

    def next_step(self, thread):
        """Return the next step of a thread's top program, or None."""
        actor = self.known_thread(thread)
        return actor.top().frame.next_step() if actor.is_running() else None

    def waits_for(self, thread):
        """Return the module for which a thread waits, or None."""
        return self.awaited(self.known_thread(thread))

    def can_run(self):
        """Return the sorted list of the threads that can run."""
        running = [name for name in sorted(self.crew) if self.crew[name].is_running()]
        return [name for name in running if self.awaited(self.crew[name]) is None]

    def state_of(self, module):
        """Return the state of a module."""
        return self.registry.state_of(module)

    def exports(self, module):
        """Return a dict from the names of a module's exports, sorted, to their values."""
        return self.registry.exports(module)

    def chain(self, module):
        """Return the chain of a failed module."""
        return self.registry.chain(module)

    def needs(self):
        """Return a graph of the recorded needs that were not deleted or forgotten."""
        return self.registry.needs()

    def recorded(self):
        """Return a graph of all needs that were ever recorded."""
        return self.registry.recorded()

    def early(self):
        """Return the sorted list of the early accesses, pairs of a source and a target."""
        return self.registry.early()

    def frame_of(self, module):
        """Return a copy of the frame of a module whose initializer is on a stack."""
        state = self.registry.state_of(module)
        for name in self.crew:
            for execution in self.crew[name].stacked:
                if execution.module == module:
                    return execution.frame.clone()
        raise WrongState(bare_word(module), state)

    def outcome(self):
        """Return the outcome of the world as it is."""
        known = [module for module in self.registry.names() if self.state_of(module) != "new"]
        modules = [module_row(module, self.state_of(module), self.exports(module)) for module in known]
        mains = [main_row(name, self.status(name), self.variables(name)) for name in self.threads()]
        return (tuple(modules), tuple(mains))

    def events(self):
        """Return the list of the events of all actions."""
        return list(self.reports)

    def retry(self, module):
        """Make a failed module new, which must not be held and which no program may need."""
        self.registry.check_retry(module)
        running = [thread for thread in self.crew.values() if thread.is_running()]
        if module in [thread.main.requested_module() for thread in running]:
            raise StillNeeded(bare_word(module))
        self.registry.retry(module)
        self.operations.append(("retry", bare_word(module)))

    def unload(self):
        """Unload the ready modules that nobody uses, and return their sorted list."""
        running = [thread for thread in self.crew.values() if thread.is_running()]
        unloaded = self.registry.unload(kept=[module for thread in running for module in thread.asked])
        self.operations.append(("unload",))
        return unloaded

    def history(self):
        """Return the list of all operations that were performed."""
        return list(self.operations)

    def perform(self, operation):
        """Perform an operation of a history."""
        if operation[0] == "thread":
            self.add_thread(operation[1], list(operation[2]))
        elif operation[0] == "act":
            self.act(operation[1])
        elif operation[0] == "retry":
            self.retry(operation[1])
        else:
            self.unload()

    def undo(self, *, count=1):
        """Take back so many operations and return how many remain."""
        if not is_count(count) or count > len(self.operations):
            raise InvalidUndo("not the number of operations that can be taken back")
        # Operations leave no choice, so performing the others again leads to the state before those taken back.
        remaining = self.operations[:len(self.operations) - count]
        past = World(self.known_library)
        for operation in remaining:
            past.perform(operation)
        self.take_over(past)
        return len(self.operations)

    def take_over(self, other):
        """Become an independent copy of a world."""
        self.registry = other.registry.clone()
        self.crew = {name: other.crew[name].clone() for name in other.crew}
        self.operations = list(other.operations)
        self.reports = list(other.reports)

    def clone(self):
        """Return an independent copy."""
        world = World(self.known_library)
        world.take_over(self)
        return world


def check_choices(value):
    """Raise InvalidChoices for a value that is not a list or tuple of counts."""
    if not isinstance(value, (list, tuple)) or not all([is_count(choice) for choice in value]):
        raise InvalidChoices("not a list or tuple of counts")


def run(world, *, choices=(), limit=5000):
    """Run a world until no thread can run, and return the number of actions."""
    check_choices(choices)
    count = 0
    able = world.can_run()
    while len(able) > 0:
        if count >= limit:
            raise TooMany(limit)
        choice = choices[count] if count < len(choices) else 0
        world.act(able[choice % len(able)])
        count += 1
        able = world.can_run()
    return count
