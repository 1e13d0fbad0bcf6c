"""Which binds hold in a room."""


def rows(house, binds, room):
    """The rows of keys of the room with their deeds, rising."""
    told = []
    for keys, number in holders(house, binds, room).items():
        deed = binds[number][2]
        if deed is not None:
            told.append((keys, deed))
    return tuple(sorted(told))


def holder(house, binds, room, keys):
    """The number of the innermost bind of these keys, or None."""
    return holders(house, binds, room).get(keys)


def holders(house, binds, room):
    """For each row of keys that is bound there the number of the innermost bind."""
    found = {}
    for place in around(house, room):
        for number, (bound, keys, deed) in enumerate(binds):
            if bound == place and keys not in found:
                found[keys] = number
    return found


def around(house, room):
    """The room and those in which it lies, the innermost first."""
    outers = {inner: outer for inner, outer in house[0]}
    found = []
    place = room
    while place is not None:
        found.append(place)
        place = outers[place]
    return found


def begins(keys, row):
    """True if the row begins with these keys and is longer."""
    return len(row) > len(keys) and row[:len(keys)] == keys
