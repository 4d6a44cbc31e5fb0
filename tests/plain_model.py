"""A second plain run: programs are executed by one recursive function over their steps."""


class Cycle(Exception):
    """A module was needed while its initializer was running; the argument is the cycle."""


class Fails(Exception):
    """A program fails."""


class PlainModel:
    def __init__(self, programs):
        self.programs = programs
        self.state = {}
        self.values = {}
        self.order = []

    def ready(self, module, above):
        """Whether a module is ready, after its initializer has run; above are the modules that are running."""
        if module in above:
            raise Cycle(list(above[above.index(module):]))
        if module not in self.state:
            try:
                self.execute(self.programs[module], dict.fromkeys("abcd", 0), module, above + (module,))
                self.state[module] = "ready"
            except Fails:
                self.state[module] = "failed"
                self.values = {key: value for key, value in self.values.items() if key[0] != module}
            self.order.append(module)
        return self.state[module] == "ready"

    def execute(self, program, memory, module, above):
        seen = {module}
        at = 0
        while at < len(program):
            kind, *items = program[at]
            at += 1
            if kind == "set":
                memory[items[0]] = items[1]
            elif kind == "add":
                memory[items[0]] += memory[items[1]]
            elif kind == "skip":
                at += items[1] if memory[items[0]] > 0 else 0
            elif kind == "export":
                self.values[module, items[0]] = memory[items[1]]
            elif kind == "read":
                memory[items[0]] = self.values.get((items[1], items[2]), -1) if items[1] in seen else -1
            elif kind == "fail":
                raise Fails
            else:
                ready = self.ready(items[0], above)
                if ready:
                    seen.add(items[0])
                if kind == "try":
                    memory[items[1]] = 1 if ready else 0
                elif not ready:
                    raise Fails

    def run(self, mains):
        """The outcome of the main programs; sets the order."""
        rows = []
        for name, program in mains.items():
            memory = dict.fromkeys("abcd", 0)
            try:
                self.execute(program, memory, None, ())
                status = "ended"
            except Fails:
                status = "failed"
            rows.append((name, status, tuple(memory[variable] for variable in "abcd")))
        modules = []
        for module in sorted(self.state):
            exports = tuple(sorted((key[1], value) for key, value in self.values.items() if key[0] == module))
            modules.append((module, self.state[module], exports))
        return tuple(modules), tuple(sorted(rows))
