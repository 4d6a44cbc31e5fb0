"""A second world over the second registry; each program is a dict, and each action is written out as in the document."""

from registry_model import Refused, RegistryModel


def program_state(module, steps):
    return {"module": module, "steps": steps, "at": 0, "memory": dict.fromkeys("abcd", 0), "asked": False, "seen": set()}


class WorldModel:
    def __init__(self, programs):
        self.programs = programs
        self.registry = RegistryModel(programs)
        self.threads = {}
        self.events = []

    def add_thread(self, name, steps):
        self.threads[name] = {"programs": [program_state(None, steps)], "status": "running", "ever": set()}

    def waits_for(self, name):
        thread = self.threads[name]
        top = thread["programs"][-1]
        if thread["status"] != "running" or not top["asked"]:
            return None
        if top["module"] is not None and self.registry.state[top["module"]] == "failed":
            return None
        target = top["steps"][top["at"]][1]
        return target if self.registry.answer(top["module"], target) == "wait" else None

    def can_run(self):
        running = [name for name in sorted(self.threads) if self.threads[name]["status"] == "running"]
        return [name for name in running if self.waits_for(name) is None]

    def act(self, name):
        if name not in self.threads:
            raise Refused("UnknownThread", name)
        thread = self.threads[name]
        if thread["status"] != "running":
            raise Refused("HasEnded", name)
        top = thread["programs"][-1]
        if self.waits_for(name) is not None:
            raise Refused("MustWait", top["module"], self.waits_for(name))
        event = self.event(name, thread, top)
        self.events.append(event)
        return event

    def event(self, name, thread, top):
        module, memory = top["module"], top["memory"]
        if module is not None and self.registry.state[module] == "failed":
            thread["programs"].pop()
            self.registry.release(module)
            return ("remove", name, module)
        if top["at"] == len(top["steps"]):
            if module is None:
                thread["status"] = "ended"
                return ("end", name)
            thread["programs"].pop()
            return ("finish", name, module, tuple(self.registry.finish(module)))
        step = top["steps"][top["at"]]
        kind, *items = step
        if kind in ("set", "add", "skip", "export", "read"):
            self.do_step(top, kind, items, memory)
            return ("step", name, module, step)
        if kind == "fail":
            return self.fail(name, thread, module, None)
        target = items[0]
        if not top["asked"]:
            top["asked"] = True
            if module is None:
                thread["ever"].add(target)
            started = self.registry.request(module, target)
            if started:
                thread["programs"].append(program_state(target, self.programs[target]))
            return ("request", name, module, target, started)
        answer = self.registry.access(module, target)
        if answer == "failed" and kind == "need":
            return self.fail(name, thread, module, target)
        top["asked"] = False
        top["at"] += 1
        if answer != "failed":
            top["seen"].add(target)
        if kind == "try":
            memory[items[1]] = 0 if answer == "failed" else 1
        return ("continue", name, module, target, answer)

    def do_step(self, top, kind, items, memory):
        top["at"] += 1
        if kind == "set":
            memory[items[0]] = items[1]
        elif kind == "add":
            memory[items[0]] += memory[items[1]]
        elif kind == "skip":
            top["at"] += items[1] if memory[items[0]] > 0 else 0
        elif kind == "export":
            self.registry.export(top["module"], items[0], memory[items[1]])
        else:
            allowed = items[1] in top["seen"] or items[1] == top["module"]
            memory[items[0]] = self.registry.exported.get((items[1], items[2]), -1) if allowed else -1

    def fail(self, name, thread, module, because):
        if module is None:
            thread["status"] = "failed"
            return ("fail", name, None, ())
        return ("fail", name, module, tuple(self.registry.fail(module, because)))

    def retry(self, module):
        self.registry.known(module)
        if self.registry.state[module] == "failed" and module not in self.registry.held:
            for thread in self.threads.values():
                main = thread["programs"][0]
                if thread["status"] == "running" and main["asked"] and main["steps"][main["at"]][1] == module:
                    raise Refused("StillNeeded", module)
        self.registry.retry(module)

    def unload(self):
        running = [thread for thread in self.threads.values() if thread["status"] == "running"]
        return self.registry.unload([module for thread in running for module in thread["ever"]])

    def outcome(self):
        states, exports, *others = self.registry.shown()
        modules = [(name, state, tuple(exports[name].items())) for name, state in states.items() if state != "new"]
        mains = []
        for name, thread in sorted(self.threads.items()):
            mains.append((name, thread["status"], tuple(thread["programs"][0]["memory"].values())))
        return tuple(modules), tuple(mains)

    def next_step(self, name):
        thread = self.threads[name]
        top = thread["programs"][-1]
        at_end = thread["status"] != "running" or top["at"] == len(top["steps"])
        return None if at_end else top["steps"][top["at"]]

    def shown(self):
        """All that a world tells about itself, without the history."""
        rows = {}
        for name in sorted(self.threads):
            thread = self.threads[name]
            stack = [program["module"] for program in thread["programs"][1:]]
            variables = thread["programs"][0]["memory"]
            rows[name] = [thread["status"], stack, variables, self.next_step(name), self.waits_for(name)]
        states, exports, needs, ever, early, chains, held = self.registry.shown()
        return [states, exports, needs, ever, early, chains, rows, self.can_run(), self.outcome(), self.events]


def shown(world):
    """What a world tells about itself, in the order of the model."""
    names = world.library().modules()
    states = {name: world.state_of(name) for name in names}
    rows = {}
    for name in world.threads():
        rows[name] = [world.status(name), world.stack(name), world.variables(name), world.next_step(name),
                      world.waits_for(name)]
    return [
        states,
        {name: world.exports(name) for name in names},
        world.needs().pairs(),
        world.recorded().pairs(),
        world.early(),
        {name: world.chain(name) for name in names if states[name] == "failed"},
        rows,
        world.can_run(),
        world.outcome(),
        world.events(),
    ]
