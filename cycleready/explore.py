"""All schedules of a world: the states that can be reached, their outcomes and early accesses."""

from cycleready.errors import TooMany

MAX_STATES = 2000


def moves_of(world):
    """Return, for each thread that can run, the thread, its event, and a copy of the world after its action."""
    moves = []
    for thread in world.can_run():
        after = world.clone()
        event = after.act(thread)
        moves.append((thread, event, after))
    return moves


def walk(world, limit):
    """Yield, for each state that can be reached, its first schedule, a world that is in it, and its moves.

    Shorter schedules come first, equally long ones in sorted order.
    """
    start = world.clone()
    reached = {start.fingerprint(): True}
    latest = [([], start)]
    count = 0
    while len(latest) > 0:
        following = []
        # These schedules and the moves are in sorted order, so the first one that reaches a state is the right one.
        for schedule, state in latest:
            if count >= limit:
                raise TooMany(limit)
            count += 1
            # Once there are more states than the limit, the error is certain, and no further state is looked for.
            moves = moves_of(state) if len(reached) <= limit else []
            yield (schedule, state, moves)
            for thread, event, after in moves:
                fingerprint = after.fingerprint()
                if fingerprint not in reached:
                    reached[fingerprint] = True
                    following.append((schedule + [thread], after))
        latest = following


def count_states(world, *, limit=MAX_STATES):
    """Return the number of states that can be reached, the given one included."""
    count = 0
    for schedule, state, moves in walk(world, limit):
        count += 1
    return count


def schedules(world, *, limit=MAX_STATES):
    """Yield the first of the shortest schedules to each state that can be reached."""
    for schedule, state, moves in walk(world, limit):
        # The walk still needs its own list.
        yield list(schedule)


def final_outcomes(world, *, limit=MAX_STATES):
    """Return the sorted list of the different outcomes of final states."""
    outcomes = {}
    for schedule, state, moves in walk(world, limit):
        if len(moves) == 0:
            outcomes[state.outcome()] = True
    return sorted(outcomes)


def early_pair(event):
    """Return the source and the target of an early access, or None for any other event."""
    return event[2:4] if event[0] == "continue" and event[4] == "early" else None


def early_pairs(world, *, limit=MAX_STATES):
    """Return the sorted list of the early pairs of all actions that can be reached."""
    pairs = {}
    for schedule, state, moves in walk(world, limit):
        for thread, event, after in moves:
            pair = early_pair(event)
            if pair is not None:
                pairs[pair] = True
    return sorted(pairs)


def first_schedule(world, source, target, *, limit=MAX_STATES):
    """Return the first of the shortest schedules that end with an early access of the target by the source, or None."""
    world.state_of(source)
    world.state_of(target)
    found = None
    # The walk goes on after the schedule is found: there may be more states than the limit.
    for schedule, state, moves in walk(world, limit):
        for thread, event, after in moves:
            if found is None and early_pair(event) == (source, target):
                found = schedule + [thread]
    return found


def is_decided(world):
    """Return whether the world shows that all its schedules end alike."""
    kinds = [operation[0] for operation in world.history()]
    if "retry" in kinds or "unload" in kinds or len(world.can_run()) > 0:
        return False
    from_first_action = kinds[kinds.index("act"):] if "act" in kinds else []
    return "thread" not in from_first_action and world.recorded().is_acyclic()
