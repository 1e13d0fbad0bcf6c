"""Houses, maps and presses drawn by chance, but the same ones each time."""

import random

NAMES = ("a", "b", "hall", "attic", "nook", "yard", "cellar", "none", "z")
DEEDS = ("go", "in", "open", "save", "none", "shut", "a", "climb")
KEYS = ("a", "b", "c-a", "m-s-up", "0", "enter")


def drawn_house(draw):
    names = draw.sample(NAMES, draw.randint(1, 6))
    rooms = [(name, draw.choice([None] + names[:at])) for at, name in enumerate(names)]
    deeds = sorted(draw.sample(DEEDS, draw.randint(0, 4)))
    return (tuple(rooms), tuple((deed, draw.choice(names)) for deed in deeds))


def drawn_map(draw, house, keys=KEYS, most=12):
    """A map of the house; few keys, so that many rows begin others or stand in several rooms."""
    names = [room for room, outer in house[0]]
    deeds = {}
    for _ in range(draw.randint(0, most)):
        row = tuple(draw.choice(keys) for _ in range(draw.randint(1, 3)))
        deeds[draw.choice(names), row] = draw.choice(DEEDS + (None, None))
    return tuple((room, row, deed) for (room, row), deed in deeds.items())


def drawn_pairs(many, keys=KEYS, seed=7):
    """So many pairs of a house and a map of it."""
    draw = random.Random(seed)
    found = []
    for _ in range(many):
        house = drawn_house(draw)
        found.append((house, drawn_map(draw, house, keys)))
    return found


def drawn_presses(draw, keys, wait):
    """Presses of the keys, many of them just in time, just too late, or at once."""
    time, found = draw.choice((0, 5)), []
    for _ in range(draw.randint(0, 9)):
        found.append((draw.choice(keys), time))
        time += draw.choice((0, 1, wait - 1, wait - 1, wait, wait + 1))
    return tuple(found)
