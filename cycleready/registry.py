"""Registries: modules with their states, needs, early accesses, exports and chains of failures."""

from cycleready.errors import InvalidModules, InvalidNumber, MustWait, NoNeed, StillNeeded, UnknownModule, WrongState
from cycleready.library import MOST_MODULES
from cycleready.needs import Needs
from cycleready.words import bare_word, check_name, is_integer, is_name


def check_modules(value):
    """Raise InvalidModules for a value that is not a list or tuple of one to forty different names."""
    if not isinstance(value, (list, tuple)) or not 1 <= len(value) <= MOST_MODULES:
        raise InvalidModules("not a list or tuple of one to forty names")
    if not all([is_name(name) for name in value]) or len(set(value)) < len(value):
        raise InvalidModules("not different names")


class Registry:
    """Modules, who of them needs whom, and what became of them."""

    STATES = ("new", "running", "done", "ready", "failed")

    def __init__(self, names):
        check_modules(names)
        modules = [bare_word(name) for name in sorted(names)]
        self.states = {module: "new" for module in modules}
        self.exported = {module: {} for module in modules}
        self.chains = {}
        # The modules that are held, in any order; each has the value True.
        self.held = {}
        self.graph = Needs()
        self.graph_ever = Needs()
        # The early accesses are pairs of names, too.
        self.accesses = Needs()

    def __eq__(self, other):
        return (
            isinstance(other, Registry)
            and self.states == other.states
            and self.exported == other.exported
            and self.chains == other.chains
            and self.held == other.held
            and self.graph == other.graph
            and self.accesses == other.accesses
        )

    def __len__(self):
        return len(self.states)

    def fingerprint(self):
        """Return a list of all that is compared, which shows in the same way if it is equal."""
        modules = [[self.states[module], self.exports(module)] for module in self.states]
        chains = [self.chains[module] for module in sorted(self.chains)]
        return [modules, chains, sorted(self.held), self.graph.pairs(), self.accesses.pairs()]

    @staticmethod
    def is_state(value):
        """Return whether a value is a state."""
        return isinstance(value, str) and value in Registry.STATES

    def known(self, value):
        """Return the module that a value is."""
        if not is_name(value) or value not in self.states:
            raise UnknownModule(value)
        return bare_word(value)

    def check_state(self, module, state):
        """Raise WrongState if a module is not in this state."""
        if self.states[module] != state:
            raise WrongState(module, self.states[module])

    def names(self):
        """Return the sorted list of the modules."""
        return list(self.states)

    def state_of(self, module):
        """Return the state of a module."""
        return self.states[self.known(module)]

    def in_state(self, state):
        """Return the sorted list of the modules in a state, which is empty for any other value."""
        if not self.is_state(state):
            return []
        return [module for module in self.states if self.states[module] == state]

    def check_request(self, source, target):
        """Raise the errors of a request."""
        if source is not None:
            self.known(source)
        self.known(target)
        if source is not None:
            self.check_state(self.known(source), "running")

    def request(self, source, target):
        """Record the need of the source, start the target if it is new, and return whether it was."""
        self.check_request(source, target)
        if source is not None:
            self.graph.record(source, target)
            self.graph_ever.record(source, target)
        if self.states[target] != "new":
            return False
        self.states[target] = "running"
        return True

    def answer(self, source, target):
        """Return the answer to a request: "ready", "failed", "early" or "wait"."""
        self.check_request(source, target)
        if source is not None and not self.graph.is_need(source, target):
            raise NoNeed(source, target)
        state = self.states[target]
        if state in ("ready", "failed"):
            return state
        if source is None:
            return "wait"
        is_early = self.accesses.is_need(source, target) or self.graph.depends(target, source)
        return "early" if is_early else "wait"

    def access(self, source, target):
        """Access the target of a request and return the answer."""
        answer = self.answer(source, target)
        if answer == "wait":
            raise MustWait(source, target)
        if answer == "early":
            self.accesses.record(source, target)
        elif answer == "failed" and source is not None:
            self.graph.delete(source, target)
        return answer

    def export(self, module, name, value):
        """Export a value of a running module under a name."""
        owner = self.known(module)
        self.check_state(owner, "running")
        check_name(name)
        if not is_integer(value):
            raise InvalidNumber("only integers are exported")
        self.exported[owner][bare_word(name)] = int(value)

    def exports(self, module):
        """Return a dict from the names of a module's exports, sorted, to their values."""
        exported = self.exported[self.known(module)]
        return {name: exported[name] for name in sorted(exported)}

    def value_of(self, module, name):
        """Return the value that a module exports under a name, or -1."""
        exported = self.exported[self.known(module)]
        return exported.get(name, -1) if is_name(name) else -1

    def is_complete(self, module):
        """Return whether a module and all modules that it depends on are done or ready."""
        return all([self.states[other] in ("done", "ready") for other in self.graph.closure(module)])

    def finish(self, module):
        """Make a running module done, and return the sorted list of the modules that became ready."""
        self.check_state(self.known(module), "running")
        self.states[module] = "done"
        complete = [other for other in self.in_state("done") if self.is_complete(other)]
        for other in complete:
            self.states[other] = "ready"
            self.accesses.delete_all(other)
        return complete

    def sink(self, module, chain):
        """Make a running or done module failed, with this chain."""
        if self.states[module] == "running":
            self.held[module] = True
        else:
            self.graph.delete_all(module)
        self.states[module] = "failed"
        self.chains[module] = chain
        self.exported[module] = {}
        self.accesses.delete_all(module)

    def next_round(self, sunken):
        """Return a dict from the modules that fail in the round after the one of these modules to their chains."""
        sinking = {}
        for target in sorted(sunken):
            # The early accesses of failed modules are forgotten, so these sources are running or done.
            for source in self.accesses.sources(target):
                if source not in sinking:
                    sinking[source] = [source] + self.chains[target]
        return sinking

    def fail(self, module, *, because=None):
        """Make a running module fail, and return the sorted list of all modules that failed."""
        first = self.known(module)
        self.check_state(first, "running")
        chain = [first]
        if because is not None:
            self.check_state(self.known(because), "failed")
            chain += self.chains[because]
        failed = []
        sinking = {first: chain}
        while len(sinking) > 0:
            for other in sinking:
                self.sink(other, sinking[other])
            failed += list(sinking)
            sinking = self.next_round(sinking)
        return sorted(failed)

    def chain(self, module):
        """Return the chain of a failed module."""
        self.check_state(self.known(module), "failed")
        return list(self.chains[module])

    def is_held(self, module):
        """Return whether a module is held."""
        return self.known(module) in self.held

    def release(self, module):
        """Release a held module."""
        if not self.is_held(module):
            raise WrongState(self.known(module), self.states[module])
        del self.held[module]
        self.graph.delete_all(module)

    def check_retry(self, module):
        """Raise UnknownModule or WrongState for a value that is not a module that is failed and not held."""
        self.check_state(self.known(module), "failed")
        if self.is_held(module):
            raise WrongState(self.known(module), "failed")

    def retry(self, module):
        """Make a failed module new, which must not be held and which no module may need."""
        self.check_retry(module)
        if len(self.graph.sources(module)) > 0:
            raise StillNeeded(self.known(module))
        self.states[module] = "new"
        del self.chains[module]

    def check_kept(self, value):
        """Raise InvalidModules for a value that is not a list or tuple of modules."""
        if not isinstance(value, (list, tuple)):
            raise InvalidModules("not a list or tuple of modules")
        if not all([is_name(module) and module in self.states for module in value]):
            raise InvalidModules("not modules of this registry")

    def unload(self, *, kept=()):
        """Make new all ready modules on which no kept, running, done or failed module depends; return their list."""
        self.check_kept(kept)
        users = list(kept) + self.in_state("running") + self.in_state("done") + self.in_state("failed")
        used = {other: True for module in users for other in self.graph.closure(module)}
        unloaded = [module for module in self.in_state("ready") if module not in used]
        for module in unloaded:
            self.states[module] = "new"
            self.exported[module] = {}
            self.graph.delete_all(module)
        return unloaded

    def needs(self):
        """Return a graph of the recorded needs that were not deleted or forgotten."""
        return self.graph.clone()

    def recorded(self):
        """Return a graph of all needs that were ever recorded."""
        return self.graph_ever.clone()

    def early(self):
        """Return the sorted list of the early accesses, pairs of a source and a target."""
        return self.accesses.pairs()

    def clone(self):
        """Return an independent copy."""
        registry = Registry(self.names())
        registry.states = dict(self.states)
        registry.exported = {module: dict(self.exported[module]) for module in self.exported}
        registry.chains = {module: list(self.chains[module]) for module in self.chains}
        registry.held = dict(self.held)
        registry.graph = self.graph.clone()
        registry.graph_ever = self.graph_ever.clone()
        registry.accesses = self.accesses.clone()
        return registry
