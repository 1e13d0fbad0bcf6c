"""Which things are keys, houses and maps of a house.

Every question is answered for any thing. So each part is asked for its kind
before it is measured, compared or taken apart.
"""

LETTERS = "abcdefghijklmnopqrstuvwxyz"
FIGURES = "0123456789"
HELPERS = ("c-", "m-", "s-")
WORD_KEYS = ("enter", "esc", "tab", "up", "down")

MOST_LETTERS = 6
MOST_ROOMS = 6
MOST_WAYS = 4
MOST_KEYS = 3
MOST_BINDS = 12


def is_key(thing):
    """True if the thing is a key: helpers in their order, then a sign or a word."""
    if not isinstance(thing, str):
        return False
    rest = thing
    # Each helper is taken off once and in order, so one that comes again or
    # too late stays in the rest, which is then no bare key.
    for helper in HELPERS:
        rest = rest.removeprefix(helper)
    return is_bare_key(rest)


def is_bare_key(text):
    """True if the text is a key without helpers."""
    if len(text) == 1:
        return text in LETTERS or text in FIGURES
    return text in WORD_KEYS


def is_name(thing):
    """True if the thing is a name of a room or a deed."""
    if not isinstance(thing, str):
        return False
    return 1 <= len(thing) <= MOST_LETTERS and all(sign in LETTERS for sign in thing)


def is_tuple(thing, least, most):
    """True if the thing is a tuple with at least and at most so many parts."""
    return isinstance(thing, tuple) and least <= len(thing) <= most


def is_house(thing):
    """True if the thing is a house: a pair of rooms and ways."""
    if not is_tuple(thing, 2, 2):
        return False
    rooms, ways = thing
    return are_rooms(rooms) and are_ways(room_names(rooms), ways)


def room_names(rooms):
    """The names of a house's rooms, in order."""
    return [room for room, outer in rooms]


def are_rooms(thing):
    """True if the thing is the rooms of a house."""
    if not is_tuple(thing, 1, MOST_ROOMS):
        return False
    ahead = []
    for pair in thing:
        if not is_room_pair(ahead, pair):
            return False
        ahead.append(pair[0])
    return True


def is_room_pair(ahead, thing):
    """True if the thing tells a new room and its outer one, behind the rooms ahead."""
    if not is_tuple(thing, 2, 2):
        return False
    room, outer = thing
    if not is_name(room) or room in ahead:
        return False
    return outer is None or outer in ahead


def are_ways(names, thing):
    """True if the thing is the ways of a house with rooms of these names."""
    if not is_tuple(thing, 0, MOST_WAYS):
        return False
    if not all(is_way(names, way) for way in thing):
        return False
    deeds = [deed for deed, room in thing]
    return deeds == sorted(set(deeds))


def is_way(names, thing):
    """True if the thing is a deed and one of the rooms of these names."""
    return is_tuple(thing, 2, 2) and is_name(thing[0]) and thing[1] in names


def is_map(house, thing):
    """True if the thing is a map of the house; what is no house has no maps."""
    return is_house(house) and are_binds(room_names(house[0]), thing)


def are_binds(names, thing):
    """True if the thing is a map of a house with rooms of these names."""
    if not is_tuple(thing, 0, MOST_BINDS):
        return False
    if not all(is_bind(names, bind) for bind in thing):
        return False
    places = [(room, keys) for room, keys, deed in thing]
    return len(set(places)) == len(places)


def is_bind(names, thing):
    """True if the thing is a bind of a house with rooms of these names."""
    if not is_tuple(thing, 3, 3):
        return False
    room, keys, deed = thing
    return room in names and are_keys(keys) and (deed is None or is_name(deed))


def are_keys(thing):
    """True if the thing is the keys of a bind."""
    return is_tuple(thing, 1, MOST_KEYS) and all(is_key(key) for key in thing)
