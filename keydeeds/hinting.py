"""What can be pressed next, and how a deed is come to."""

from keydeeds.holding import begins, rows
from keydeeds.pressing import begin, put_behind, settled

WAIT = "wait"


def hints(house, binds, state):
    """The keys with which those that wait go on, each with what comes of it, rising."""
    room, waiting, since = state
    deeds = {row: deed for row, deed in rows(house, binds, room)}
    going_on = sorted(set([row[len(waiting)] for row in deeds if begins(waiting, row)]))
    return tuple((key, hint(deeds, waiting + (key,))) for key in going_on)


def hint(deeds, keys):
    """What comes of the keys, which are a row or begin one; the rows with their deeds."""
    if keys not in deeds:
        return ("on",)
    if any(begins(keys, row) for row in deeds):
        return ("both", deeds[keys])
    return ("deed", deeds[keys])


def steps_to(house, binds, deed):
    """The fewest keys and waits at the last of which the deed is told; None if none are."""
    layer = [begin(house)]
    taken = {begin(house): ()}
    while layer:
        further = []
        for state in layer:
            for step, after, told in steps_from(house, binds, state):
                if ("deed", deed) in told:
                    return taken[state] + (step,)
                if after not in taken:
                    taken[after] = taken[state] + (step,)
                    further.append(after)
        layer = further
    return None


def steps_from(house, binds, state):
    """The steps that can be taken, each with the state behind it and what is told."""
    room, waiting, since = state
    found = []
    # The wait comes first: a key that is pressed instead might tell the deed
    # that was waited for, and then again.
    if waiting:
        after, told = settled(house, binds, state)
        found.append((WAIT, after, told))
    for key in bound_keys(binds):
        # All times are alike, so that states differ in room and keys alone.
        after, told = put_behind(house, binds, state, key, since)
        found.append((key, after, told))
    return found


def bound_keys(binds):
    """All keys that stand in some bind; others are of no more use than a wait."""
    return sorted(set([key for room, keys, deed in binds for key in keys]))
