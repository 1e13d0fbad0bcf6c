"""Maps laid over one another, thinned out, compared, and with keys exchanged."""

from keydeeds.holding import rows
from keydeeds.things import room_names


def over(one, other):
    """One's binds with the other's deeds, then the binds that the other alone has."""
    deeds = {(room, keys): deed for room, keys, deed in other}
    places = [(room, keys) for room, keys, deed in one]
    laid = [(room, keys, deeds.get((room, keys), deed)) for room, keys, deed in one]
    rest = [(room, keys, deed) for room, keys, deed in other if (room, keys) not in places]
    return tuple(laid + rest)


def without(binds, numbers):
    """The binds whose numbers are not among these."""
    return tuple(bind for number, bind in enumerate(binds) if number not in numbers)


def changes(house, old, new):
    """The rows of each room that do not have the same deed in both maps, rising."""
    found = []
    # The deeds may be None, so the answers themselves cannot be sorted.
    for room in sorted(room_names(house[0])):
        before = {keys: deed for keys, deed in rows(house, old, room)}
        now = {keys: deed for keys, deed in rows(house, new, room)}
        for keys in sorted(set(list(before) + list(now))):
            if before.get(keys) != now.get(keys):
                found.append((room, keys, before.get(keys), now.get(keys)))
    return tuple(found)


def exchanged(binds, one, other):
    """The binds with these two keys in each other's place."""
    partners = {one: other, other: one}
    found = []
    for room, keys, deed in binds:
        found.append((room, tuple(partners.get(key, key) for key in keys), deed))
    return tuple(found)
