"""Things that several tests use, ways to spoil them, and a way to ask."""

import copy
import unittest

HOUSE = (
    (("hall", None), ("attic", "hall"), ("nook", "attic"), ("yard", None)),
    (("climb", "attic"), ("leave", "yard")),
)

MAP = (
    ("hall", ("a",), "open"),
    ("hall", ("c-x", "c-s"), "save"),
    ("attic", ("a",), None),
    ("yard", ("esc", "g", "0"), "leave"),
)

# Things, each with its text.
HOUSE_TEXTS = (
    (((("hall", None),), ()), "hall | none"),
    (((("hall", None),), (("go", "hall"),)), "hall | go > hall"),
    (((("hall", None), ("attic", "hall")), ()), "hall, attic < hall | none"),
    (((("hall", None), ("yard", None)), ()), "hall, yard | none"),
    (((("none", None), ("a", "none")), (("none", "a"),)), "none, a < none | none > a"),
    (HOUSE, "hall, attic < hall, nook < attic, yard | climb > attic, leave > yard"),
    (
        (
            (("a", None), ("b", "a"), ("c", "b"), ("d", "c"), ("e", "d"), ("f", "a")),
            (("go", "f"), ("in", "a"), ("on", "a"), ("up", "b")),
        ),
        "a, b < a, c < b, d < c, e < d, f < a | go > f, in > a, on > a, up > b",
    ),
)

MAP_TEXTS = (
    ((), "none"),
    ((("hall", ("a",), "open"),), "hall: a = open"),
    ((("hall", ("a",), None),), "hall: a = -"),
    ((("hall", ("a",), "none"),), "hall: a = none"),
    ((("hall", ("c-x", "c-s"), "save"),), "hall: c-x c-s = save"),
    ((("yard", ("esc", "c-m-s-up", "0"), None),), "yard: esc c-m-s-up 0 = -"),
    ((("hall", ("a",), "open"), ("attic", ("a",), None)), "hall: a = open ; attic: a = -"),
    ((("b", ("z",), "x"), ("a", ("y",), "w")), "b: z = x ; a: y = w"),
    (MAP, "hall: a = open ; hall: c-x c-s = save ; attic: a = - ; yard: esc g 0 = leave"),
)

# In place of a part, none of these makes any house or map. None is left out:
# it may stand for an outer room and for a deed.
NEVER_PARTS = (True, False, 0, 1, -3, "", "No", "a b", "a1", (), [], (None,), ["hall"])

ODD_THINGS = (
    None, True, False, 0, 1, -3, (), [], (None,), [None], ("a",), ["a"], (0, 1), (True, "a", None),
    ("a", ("b", ["c", (None, 7)])), [["a"], ("b",)],
)


def nested(core, depth, as_list):
    """The core in so many tuples, or lists, around one another."""
    thing = core
    for _ in range(depth):
        thing = [thing] if as_list else (thing,)
    return thing


def deep_things():
    """Things of thirty and more levels, of tuples, of lists and of both."""
    found = []
    for depth in (29, 30, 31, 40):
        for as_list in (False, True):
            for core in (None, "a", 1, True, ()):
                found.append(nested(core, depth, as_list))
        mixed = "hall"
        for level in range(depth):
            mixed = [mixed, level] if level % 2 else (mixed, None)
        found.append(mixed)
    return found


def places(thing, path=()):
    """The paths of the thing and of all its parts, the outermost first."""
    found = [path]
    if isinstance(thing, tuple):
        for at, part in enumerate(thing):
            found.extend(places(part, path + (at,)))
    return found


def part_at(thing, path):
    for at in path:
        thing = thing[at]
    return thing


def replaced(thing, path, part):
    """The thing with another part at this place."""
    if not path:
        return part
    at = path[0]
    return thing[:at] + (replaced(thing[at], path[1:], part),) + thing[at + 1:]


def with_lists(thing):
    """The thing with a list in place of a tuple, once for each tuple in it."""
    found = []
    for path in places(thing):
        part = part_at(thing, path)
        if isinstance(part, tuple):
            found.append(replaced(thing, path, list(part)))
    return found


def is_plain(thing):
    """True if the thing is made of tuples, texts, whole numbers, truths and None alone."""
    if type(thing) is tuple:
        return all(is_plain(part) for part in thing)
    return thing is None or type(thing) in (str, int, bool)


class AskingTests(unittest.TestCase):
    """Tests that ask in such a way that what [0.3] says is checked each time."""

    def ask(self, asked, *handed):
        before = repr(copy.deepcopy(handed))
        told = asked(*handed)
        self.assertEqual(repr(handed), before)
        self.assertTrue(is_plain(told), repr(told))
        self.assertEqual(repr(asked(*handed)), repr(told))
        return told
