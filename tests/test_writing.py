"""[1.2]: how houses and maps are written."""

import copy
import unittest

from keydeeds.writing import written, written_house
from samples import HOUSE, MAP

HOUSE_TEXTS = (
    (((("hall", None),), ()), "hall | none"),
    (((("hall", None),), (("go", "hall"),)), "hall | go > hall"),
    (((("hall", None), ("attic", "hall")), ()), "hall, attic < hall | none"),
    (((("hall", None), ("yard", None)), ()), "hall, yard | none"),
    (((("none", None), ("a", "none")), (("none", "a"),)), "none, a < none | none > a"),
    (HOUSE, "hall, attic < hall, nook < attic, yard | climb > attic, leave > yard"),
    (
        (
            (("a", None), ("b", "a"), ("c", "b"), ("d", "c"), ("e", "d"), ("f", "a")),
            (("go", "f"), ("in", "a"), ("on", "a"), ("up", "b")),
        ),
        "a, b < a, c < b, d < c, e < d, f < a | go > f, in > a, on > a, up > b",
    ),
)

MAP_TEXTS = (
    ((), "none"),
    ((("hall", ("a",), "open"),), "hall: a = open"),
    ((("hall", ("a",), None),), "hall: a = -"),
    ((("hall", ("a",), "none"),), "hall: a = none"),
    ((("hall", ("c-x", "c-s"), "save"),), "hall: c-x c-s = save"),
    ((("yard", ("esc", "c-m-s-up", "0"), None),), "yard: esc c-m-s-up 0 = -"),
    ((("hall", ("a",), "open"), ("attic", ("a",), None)), "hall: a = open ; attic: a = -"),
    ((("b", ("z",), "x"), ("a", ("y",), "w")), "b: z = x ; a: y = w"),
    (MAP, "hall: a = open ; hall: c-x c-s = save ; attic: a = - ; yard: esc g 0 = leave"),
)


class WritingTests(unittest.TestCase):
    def check(self, asked, thing, text):
        before = repr(copy.deepcopy(thing))
        told = asked(thing)
        self.assertEqual(told, text)
        self.assertIs(type(told), str)
        self.assertEqual(repr(thing), before)
        self.assertEqual(asked(thing), told)

    def test_houses(self):
        for house, text in HOUSE_TEXTS:
            self.check(written_house, house, text)

    def test_maps(self):
        for binds, text in MAP_TEXTS:
            self.check(written, binds, text)

    def test_more_than_the_most_binds(self):
        binds = tuple(("hall", (key,), "go") for key in "abcdefghijklm")
        text = " ; ".join("hall: " + key + " = go" for key in "abcdefghijklm")
        self.check(written, binds, text)

    def test_more_than_the_most_rooms_and_ways(self):
        rooms = tuple((name, None) for name in "abcdefg")
        ways = tuple((name, "a") for name in "hijkl")
        text = "a, b, c, d, e, f, g | h > a, i > a, j > a, k > a, l > a"
        self.check(written_house, (rooms, ways), text)


if __name__ == "__main__":
    unittest.main()
