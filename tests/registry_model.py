"""A second registry, over sets of pairs, which follows the words of the document one by one."""


class Refused(Exception):
    """An operation that raises an error, with the error's name and attributes."""


class RegistryModel:
    def __init__(self, names):
        self.state = {name: "new" for name in sorted(names)}
        self.exported = {}
        self.needs = set()
        self.ever = set()
        self.early = set()
        self.chains = {}
        self.held = set()

    def depends(self, one, other):
        reached, count = {one}, 0
        while len(reached) > count:
            count = len(reached)
            reached |= {target for source, target in self.needs if source in reached}
        return other in reached

    def known(self, *values):
        for value in values:
            if value not in self.state:
                raise Refused("UnknownModule", value)

    def in_state(self, module, *states):
        if self.state[module] not in states:
            raise Refused("WrongState", module, self.state[module])

    def check_request(self, source, target):
        self.known(*[module for module in (source, target) if module is not None or module is target])
        if source is not None:
            self.in_state(source, "running")

    def request(self, source, target):
        self.check_request(source, target)
        if source is not None:
            self.needs.add((source, target))
            self.ever.add((source, target))
        was_new = self.state[target] == "new"
        if was_new:
            self.state[target] = "running"
        return was_new

    def answer(self, source, target):
        self.check_request(source, target)
        if source is not None and (source, target) not in self.needs:
            raise Refused("NoNeed", source, target)
        if self.state[target] in ("ready", "failed"):
            return self.state[target]
        if source is not None and ((source, target) in self.early or self.depends(target, source)):
            return "early"
        return "wait"

    def access(self, source, target):
        answer = self.answer(source, target)
        if answer == "wait":
            raise Refused("MustWait", source, target)
        if answer == "early":
            self.early.add((source, target))
        if answer == "failed":
            self.needs.discard((source, target))
        return answer

    def export(self, module, name, value):
        self.known(module)
        self.in_state(module, "running")
        self.exported[module, name] = value

    def forget(self, module):
        self.exported = {key: value for key, value in self.exported.items() if key[0] != module}

    def finish(self, module):
        self.known(module)
        self.in_state(module, "running")
        self.state[module] = "done"
        ready = []
        for one in self.state:
            closure = [other for other in self.state if self.depends(one, other)]
            if self.state[one] == "done" and all(self.state[other] in ("done", "ready") for other in closure):
                ready.append(one)
        for one in ready:
            self.state[one] = "ready"
        self.early = {pair for pair in self.early if pair[0] not in ready}
        return ready

    def fail(self, module, because=None):
        self.known(module)
        self.in_state(module, "running")
        if because is not None:
            self.known(because)
            self.in_state(because, "failed")
        chains = {module: [module] + (self.chains[because] if because is not None else [])}
        rounds = [[module]]
        while rounds[-1]:
            earlier = [name for names in rounds for name in names]
            following = []
            for name in self.state:
                seen = sorted(target for source, target in self.early if source == name and target in rounds[-1])
                if seen and name not in earlier:
                    following.append(name)
                    chains[name] = [name] + chains[seen[0]]
            rounds.append(following)
        for name in chains:
            if self.state[name] == "running":
                self.held.add(name)
            else:
                self.needs = {pair for pair in self.needs if pair[0] != name}
            self.state[name] = "failed"
            self.forget(name)
        self.early = {pair for pair in self.early if pair[0] not in chains}
        self.chains.update(chains)
        return sorted(chains)

    def release(self, module):
        self.known(module)
        if module not in self.held:
            raise Refused("WrongState", module, self.state[module])
        self.held.remove(module)
        self.needs = {pair for pair in self.needs if pair[0] != module}

    def retry(self, module):
        self.known(module)
        if self.state[module] != "failed" or module in self.held:
            raise Refused("WrongState", module, self.state[module])
        if any(target == module for source, target in self.needs):
            raise Refused("StillNeeded", module)
        self.state[module] = "new"
        del self.chains[module]

    def unload(self, kept=()):
        users = list(kept) + [name for name in self.state if self.state[name] in ("running", "done", "failed")]
        unloaded = []
        for name in self.state:
            if self.state[name] == "ready" and not any(self.depends(user, name) for user in users):
                unloaded.append(name)
        for name in unloaded:
            self.state[name] = "new"
            self.forget(name)
        self.needs = {pair for pair in self.needs if pair[0] not in unloaded}
        return unloaded

    def shown(self):
        """All that a registry tells about itself."""
        exports = {name: {} for name in self.state}
        for module, name in sorted(self.exported):
            exports[module][name] = self.exported[module, name]
        held = [name for name in self.state if name in self.held]
        return [self.state, exports, sorted(self.needs), sorted(self.ever), sorted(self.early), self.chains, held]


def shown(registry):
    """What a registry tells about itself, in the order of the model."""
    names = registry.names()
    states = {name: registry.state_of(name) for name in names}
    chains = {name: registry.chain(name) for name in names if states[name] == "failed"}
    return [
        states,
        {name: registry.exports(name) for name in names},
        registry.needs().pairs(),
        registry.recorded().pairs(),
        registry.early(),
        chains,
        [name for name in names if registry.is_held(name)],
    ]
