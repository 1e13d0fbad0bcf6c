"""The texts of houses and maps."""

NOTHING = "none"
NO_DEED = "-"


def written_house(house):
    """The text of a house: its rooms, then its ways."""
    rooms, ways = house
    room_texts = [written_room(room, outer) for room, outer in rooms]
    way_texts = [f"{deed} > {room}" for deed, room in ways]
    return ", ".join(room_texts) + " | " + joined(", ", way_texts)


def written_room(room, outer):
    """The text of a room, with its outer one if it has one."""
    if outer is None:
        return room
    return f"{room} < {outer}"


def written(binds):
    """The text of a map."""
    return joined(" ; ", [written_bind(room, keys, deed) for room, keys, deed in binds])


def written_bind(room, keys, deed):
    """The text of a bind."""
    row = " ".join(keys)
    told = NO_DEED if deed is None else deed
    return f"{room}: {row} = {told}"


def joined(between, texts):
    """The texts with this one between each two, or the word for nothing."""
    if not texts:
        return NOTHING
    return between.join(texts)
