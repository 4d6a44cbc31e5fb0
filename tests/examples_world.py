"""The examples of the interface for registries, plain runs and worlds, as they stand in the document."""

WITH_REGISTRY = """
>>> from cycleready.registry import Registry
>>> registry = Registry(["m", "n", "o"])
>>> started = [registry.request(None, "m"), registry.request("m", "n")]
"""

REGISTRY_EXAMPLES = [
    """
>>> [len(registry), registry == registry.clone(), registry == Registry(["m", "n", "o"])]
[3, True, False]
""",
    """
>>> [Registry.STATES, Registry.is_state("done"), Registry.is_state(None)]
[('new', 'running', 'done', 'ready', 'failed'), True, False]
""",
    """
>>> [registry.names(), registry.state_of("n"), registry.in_state("running"), registry.in_state("lost")]
[['m', 'n', 'o'], 'running', ['m', 'n'], []]
""",
    """
>>> [started, registry.request("n", "m"), registry.needs().pairs()]
[[True, True], False, [('m', 'n'), ('n', 'm')]]
""",
    """
>>> registry.request("o", "m")
raises WrongState(module='o', found='new')
""",
    """
>>> again = registry.request("n", "m")
>>> [registry.answer(None, "m"), registry.answer("m", "n"), registry.access("n", "m"), registry.early()]
['wait', 'early', 'early', [('n', 'm')]]
""",
    """
>>> registry.access("m", "n")
raises MustWait(source='m', target='n')
""",
    """
>>> registry.export("n", "x", 4)
>>> [registry.exports("n"), registry.value_of("n", "x"), registry.value_of("n", None), registry.exports("o")]
[{'x': 4}, 4, -1, {}]
""",
    """
>>> again = registry.request("n", "m")
>>> answer = registry.access("n", "m")
>>> [registry.finish("n"), registry.state_of("n"), registry.finish("m"), registry.state_of("n")]
[[], 'done', ['m', 'n'], 'ready']
""",
    """
>>> again = registry.request("n", "m")
>>> answer = registry.access("n", "m")
>>> [registry.fail("m"), registry.state_of("n"), registry.chain("n")]
[['m', 'n'], 'failed', ['n', 'm']]
""",
    """
>>> failed = registry.fail("n")
>>> [registry.access("m", "n"), registry.fail("m", because="n"), registry.chain("m"), registry.needs().pairs()]
['failed', ['m'], ['m', 'n'], []]
""",
    """
>>> failed = registry.fail("n")
>>> registry.release("n")
>>> [registry.is_held("n"), registry.is_held("m"), registry.needs().pairs()]
[False, False, [('m', 'n')]]
""",
    """
>>> failed = registry.fail("n")
>>> registry.release("n")
>>> registry.retry("n")
raises StillNeeded(module='n')
""",
    """
>>> ready = registry.finish("n") + registry.finish("m")
>>> [ready, registry.unload(kept=["n"]), registry.in_state("ready"), registry.needs().pairs()]
[['n', 'm'], ['m'], ['n'], []]
""",
    """
>>> failed = registry.fail("n")
>>> answer = registry.access("m", "n")
>>> [answer, registry.needs().pairs(), registry.recorded().pairs(), registry.early()]
['failed', [], [('m', 'n')], []]
""",
]

WITH_PLAIN = """
>>> from cycleready.library import Library
>>> library = Library({"m": [("set", "a", 5), ("export", "x", "a")], "n": [("need", "m"), ("read", "b", "m", "x"), ("export", "y", "b")]})
>>> mains = {"t": [("need", "n"), ("read", "a", "n", "y")]}
"""

PLAIN_EXAMPLES = [
    """
>>> from cycleready.plain import plain_run
>>> plain_run(library, mains)
((('m', 'ready', (('x', 5),)), ('n', 'ready', (('y', 5),))), (('t', 'ended', (5, 0, 0, 0)),))
""",
    """
>>> from cycleready.plain import plain_run
>>> plain_run(Library({"p": [("need", "q")], "q": [("need", "p")]}), {"t": [("try", "p", "a")]})
raises Cyclic(cycle=['p', 'q'])
""",
    """
>>> from cycleready.plain import plain_run
>>> plain_run(Library({"m": [("need", "m")]}), {"t": [("need", "m")]})
raises Cyclic(cycle=['m'])
""",
    """
>>> from cycleready.plain import plain_order
>>> plain_order(library, mains)
['m', 'n']
""",
]

WITH_WORLD = """
>>> from cycleready.library import Library
>>> from cycleready.world import World, run
>>> library = Library({"m": [("set", "a", 5), ("export", "x", "a")], "n": [("need", "m"), ("read", "b", "m", "x"), ("export", "y", "b")]})
>>> world = World(library)
>>> world.add_thread("t", [("need", "n"), ("read", "a", "n", "y")])
>>> cyclic = World(Library({"p": [("need", "q"), ("export", "x", "a")], "q": [("need", "p")]}))
>>> cyclic.add_thread("s", [("need", "p")])
>>> cyclic.add_thread("t", [("need", "q")])
"""

WORLD_EXAMPLES = [
    """
>>> [len(world), world == world.clone(), world == World(library)]
[1, True, False]
""",
    """
>>> [world.threads(), cyclic.threads(), world.library() == library]
[['t'], ['s', 't'], True]
""",
    """
>>> world.add_thread("u", [("need", "k")])
raises InvalidProgram(position=0)
""",
    """
>>> [world.act("t"), world.act("t"), world.act("t"), world.stack("t")]
[('request', 't', None, 'n', True), ('request', 't', 'n', 'm', True), ('step', 't', 'm', ('set', 'a', 5)), ['n', 'm']]
""",
    """
>>> events = [cyclic.act("s"), cyclic.act("t"), cyclic.act("s")]
>>> cyclic.act("s")
raises MustWait(source='p', target='q')
""",
    """
>>> events = [cyclic.act("s"), cyclic.act("t"), cyclic.act("s")]
>>> [events[2], cyclic.status("s"), cyclic.next_step("s"), cyclic.waits_for("s"), cyclic.can_run()]
[('request', 's', 'p', 'q', False), 'running', ('need', 'q'), 'q', ['t']]
""",
    """
>>> events = [cyclic.act("s"), cyclic.act("t"), cyclic.act("s"), cyclic.act("t"), cyclic.act("t")]
>>> [events[4], cyclic.early(), cyclic.waits_for("s"), cyclic.variables("s")]
[('continue', 't', 'q', 'p', 'early'), [('q', 'p')], None, {'a': 0, 'b': 0, 'c': 0, 'd': 0}]
""",
    """
>>> events = [world.act("t"), world.act("t"), world.act("t")]
>>> [world.state_of("m"), world.exports("m"), world.needs().pairs(), world.frame_of("m").next_step()]
['running', {}, [('n', 'm')], ('export', 'x', 'a')]
""",
    """
>>> [run(world), world.outcome()]
[12, ((('m', 'ready', (('x', 5),)), ('n', 'ready', (('y', 5),))), (('t', 'ended', (5, 0, 0, 0)),))]
""",
    """
>>> run(world, limit=11)
raises TooMany(limit=11)
""",
    """
>>> count = run(world)
>>> [world.events()[4], world.events()[-1], world.unload(), world.state_of("m")]
[('finish', 't', 'm', ('m',)), ('end', 't'), ['m', 'n'], 'new']
""",
    """
>>> other = World(Library({"f": [("fail",)]}))
>>> other.add_thread("t", [("try", "f", "a")])
>>> count = run(other)
>>> other.retry("f")
>>> [count, other.events()[1:4], other.state_of("f")]
[5, [('fail', 't', 'f', ('f',)), ('remove', 't', 'f'), ('continue', 't', None, 'f', 'failed')], 'new']
""",
    """
>>> event = world.act("t")
>>> [world.history()[1], world.undo(), world.stack("t"), world.events()]
[('act', 't'), 1, [], []]
""",
]

SECTIONS = [(WITH_REGISTRY, REGISTRY_EXAMPLES), (WITH_PLAIN, PLAIN_EXAMPLES), (WITH_WORLD, WORLD_EXAMPLES)]
