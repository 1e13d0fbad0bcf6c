"""Keys that are pressed, and what is told of them."""

from keydeeds.holding import begins, rows


def begin(house):
    """The state in the house's first room."""
    room, outer = house[0][0]
    return idle(room)


def idle(room):
    """The state in the room when no keys wait."""
    return (room, (), 0)


def passed(house, binds, wait, state, time):
    """The state and what is told when this time has come."""
    room, keys, since = state
    if keys and time >= since + wait:
        return settled(house, binds, state)
    return (state, ())


def settled(house, binds, state):
    """The state and what is told when the keys that wait are settled."""
    room, keys, since = state
    deeds = {row: deed for row, deed in rows(house, binds, room)}
    if keys not in deeds:
        return (idle(room), (("lost", keys),))
    deed = deeds[keys]
    return (idle(led_into(house, room, deed)), (("deed", deed),))


def led_into(house, room, deed):
    """The room in which one is when the deed was told in this one."""
    for leading, target in house[1]:
        if leading == deed:
            return target
    return room


def pressed(house, binds, wait, state, key, time):
    """The state and what is told when the key is pressed at this time."""
    ahead, told = passed(house, binds, wait, state, time)
    after, more = put_behind(house, binds, ahead, key, time)
    return (after, told + more)


def put_behind(house, binds, state, key, time):
    """The state and what is told when the key comes behind those that wait."""
    room, waiting, since = state
    keys = waiting + (key,)
    bound = [row for row, deed in rows(house, binds, room)]
    together = (room, keys, time)
    if any(begins(keys, row) for row in bound):
        return (together, ())
    # To settle keys that are a row, or a key alone that is lost, tells of them
    # at once just what it tells of keys that waited.
    if keys in bound or not waiting:
        return settled(house, binds, together)
    ahead, told = settled(house, binds, state)
    # None wait any more, so this goes no deeper.
    after, more = put_behind(house, binds, ahead, key, time)
    return (after, told + more)


def run(house, binds, wait, presses):
    """All that is told of the presses, until nothing waits."""
    state = begin(house)
    told = []
    for key, time in presses:
        state, more = pressed(house, binds, wait, state, key, time)
        told.extend(more)
    room, keys, since = state
    state, more = passed(house, binds, wait, state, since + wait)
    told.extend(more)
    return tuple(told)
