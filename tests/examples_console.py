"""The examples of the interface for certificates, schedules, histories and consoles, as they stand in the document."""

WITH_CERTIFICATES = """
>>> from cycleready.library import Library
>>> from cycleready.world import World, run
>>> world = World(Library({"p": [("need", "q"), ("export", "x", "a")], "q": [("set", "a", 1), ("need", "p")]}))
>>> world.add_thread("s", [("need", "p")])
>>> world.add_thread("t", [("need", "q")])
>>> events = [world.act("s"), world.act("t"), world.act("s")]
"""

CERTIFICATES_EXAMPLES = [
    """
>>> from cycleready.certificates import is_waiting_path, waiting_path
>>> [waiting_path(world, "s"), is_waiting_path(world, "s", ["q"]), is_waiting_path(world, "s", ["p"])]
[['q'], True, False]
""",
    """
>>> from cycleready.certificates import waiting_path
>>> waiting_path(world, "t")
raises NotWaiting(thread='t')
""",
    """
>>> from cycleready.certificates import early_path, is_early_path
>>> events = [world.act("t"), world.act("t")]
>>> [early_path(world, "q", "p"), early_path(world, "p", "q"), is_early_path(world, "q", "p", ["p"])]
[['p', 'q'], ['q', 'p'], False]
""",
    """
>>> from cycleready.certificates import is_ready_list, ready_list
>>> count = run(world)
>>> [ready_list(world, "p"), is_ready_list(world, "p", ["q", "p"]), is_ready_list(world, "p", ["p"])]
[['p', 'q'], True, False]
""",
    """
>>> from cycleready.certificates import is_unready_path, unready_path
>>> events = [world.act("t"), world.act("t"), world.act("t"), world.act("t")]
>>> [events[3], unready_path(world, "q"), is_unready_path(world, "q", ["q"])]
[('finish', 't', 'q', ()), ['q', 'p'], False]
""",
    """
>>> from cycleready.certificates import failure_chain, is_failure_chain
>>> other = World(Library({"f": [("fail",)], "g": [("need", "f")]}))
>>> other.add_thread("t", [("try", "g", "a")])
>>> count = run(other)
>>> [failure_chain(other, "g"), failure_chain(other, "f"), is_failure_chain(other, "g", ["g"])]
[['g', 'f'], ['f'], False]
""",
]

WITH_EXPLORE = """
>>> from cycleready.library import Library
>>> from cycleready.world import World, run
>>> world = World(Library({"m": [("set", "a", 5), ("export", "x", "a")]}))
>>> world.add_thread("t", [("need", "m"), ("read", "b", "m", "x")])
>>> cyclic = World(Library({"p": [("need", "q")], "q": [("need", "p")]}))
>>> cyclic.add_thread("s", [("need", "p")])
>>> cyclic.add_thread("t", [("need", "q")])
"""

EXPLORE_EXAMPLES = [
    """
>>> from cycleready.explore import count_states
>>> count_states(world)
8
""",
    """
>>> from cycleready.explore import count_states
>>> count_states(world, limit=7)
raises TooMany(limit=7)
""",
    """
>>> from cycleready.explore import count_states, schedules
>>> [list(schedules(world))[:3], len(list(schedules(cyclic))) == count_states(cyclic)]
[[[], ['t'], ['t', 't']], True]
""",
    """
>>> from cycleready.explore import final_outcomes
>>> final_outcomes(world)
[((('m', 'ready', (('x', 5),)),), (('t', 'ended', (0, 5, 0, 0)),))]
""",
    """
>>> from cycleready.explore import early_pairs, first_schedule
>>> [early_pairs(world), early_pairs(cyclic), first_schedule(cyclic, "q", "p"), first_schedule(cyclic, "q", "q")]
[[], [('p', 'q'), ('q', 'p')], ['s', 's', 's', 's'], None]
""",
    """
>>> from cycleready.explore import is_decided
>>> before = is_decided(world)
>>> counts = [run(world), run(cyclic)]
>>> [before, counts[0], is_decided(world), is_decided(cyclic)]
[False, 7, True, False]
""",
]

WITH_CONSOLE = """
>>> from cycleready.library import Library
>>> from cycleready.world import World
>>> from cycleready.console import Console
>>> library = Library({"m": [("set", "a", 5), ("export", "x", "a")]})
>>> world = World(library)
>>> world.add_thread("t", [("need", "m")])
>>> event = world.act("t")
>>> console = Console(world)
"""

CONSOLE_EXAMPLES = [
    r"""
>>> from cycleready.history_text import dump_history
>>> dump_history(world)
'thread t\n  need m\nact t\n'
""",
    r"""
>>> from cycleready.history_text import replay
>>> replay(library, "thread t\n  need m\nact t\n") == world
True
""",
    r"""
>>> from cycleready.history_text import replay
>>> replay(library, "thread t\n  need m\nact u\n")
raises InvalidText(line=3)
""",
    """
>>> console.world() == world
True
""",
    """
>>> [console.limit, console.answer("limit 7"), console.limit, console.answer("run"), Console(world).limit]
[5000, 'ok', 7, '5', 5000]
""",
    """
>>> [console.answer("act t"), console.answer("stack t"), console.answer("run"), console.answer("exports m"), console.answer("status t")]
['step m set a 5', 'm', '4', 'x=5', 'ended']
""",
    """
>>> [console.answer("act t"), console.answer("act t"), console.answer("act t"), console.answer("unload"), console.answer("act t")]
['step m set a 5', 'step m export x a', 'finish m m', 'ok', 'continue - m ready']
""",
    """
>>> [console.answer("thread u try m a ; add b a"), console.answer("can"), console.answer("act u"), console.answer("undo 2")]
raises InvalidCommand
""",
    """
>>> [console.answer("thread u ; try m a ; add b a"), console.answer("can"), console.answer("act u"), console.answer("status u"), console.answer("undo 2")]
['ok', 't u', 'request - m present', 'running m', '2']
""",
    """
>>> console.answer_all(["needs", "can"])
['-', 't']
""",
    """
>>> console.answer_all(["threads", "retry m"])
raises CommandFailed(position=1, answers=['t'])
""",
]

SECTIONS = [(WITH_CERTIFICATES, CERTIFICATES_EXAMPLES), (WITH_EXPLORE, EXPLORE_EXAMPLES), (WITH_CONSOLE, CONSOLE_EXAMPLES)]
