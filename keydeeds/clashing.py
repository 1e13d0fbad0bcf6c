"""Binds that clash, binds that are of no use, and binds that must go."""

from keydeeds.changing import without
from keydeeds.holding import begins, holders, rows
from keydeeds.things import room_names


def clashes(house, binds):
    """The pairs of numbers of binds that clash in some room, rising."""
    found = []
    for room in room_names(house[0]):
        found.extend(clashes_in(house, binds, room))
    return tuple(sorted(set(found)))


def clashes_in(house, binds, room):
    """The pairs of numbers of binds that clash in this room."""
    found = holders(house, binds, room)
    deeds = [(keys, number) for keys, number in found.items() if binds[number][2] is not None]
    return [(one, other) for keys, one in deeds for row, other in deeds if begins(keys, row)]


def useless(house, binds):
    """The numbers of the binds each of which can go without any change, rising."""
    before = all_rows(house, binds)
    return tuple(
        number for number in range(len(binds)) if all_rows(house, without(binds, (number,))) == before
    )


def all_rows(house, binds):
    """The rows of each room."""
    return [rows(house, binds, room) for room in room_names(house[0])]


def cleared(house, binds):
    """As few numbers of binds as can be without which nothing clashes, rising."""
    choices = [()]
    while True:
        wider = []
        for gone in choices:
            pair = clash_left(house, binds, gone)
            if pair is None:
                return gone
            # Both hold where they clash, whatever else goes: one of them must go.
            wider.extend([tuple(sorted(gone + (number,))) for number in pair])
        choices = sorted(set(wider))


def clash_left(house, binds, gone):
    """The numbers of two binds that clash though these are gone; None if none do."""
    pairs = clashes(house, without(binds, gone))
    if not pairs:
        return None
    left = [number for number in range(len(binds)) if number not in gone]
    one, other = pairs[0]
    return (left[one], left[other])
