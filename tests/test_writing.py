"""[1.2]: how houses and maps are written."""

import copy
import unittest

from keydeeds.writing import written, written_house
from samples import HOUSE_TEXTS, MAP_TEXTS


class WritingTests(unittest.TestCase):
    def check(self, asked, thing, text):
        before = repr(copy.deepcopy(thing))
        told = asked(thing)
        self.assertEqual(told, text)
        self.assertIs(type(told), str)
        self.assertEqual(repr(thing), before)
        self.assertEqual(asked(thing), told)

    def test_houses(self):
        for house, text in HOUSE_TEXTS:
            self.check(written_house, house, text)

    def test_maps(self):
        for binds, text in MAP_TEXTS:
            self.check(written, binds, text)

    def test_more_than_the_most_binds(self):
        binds = tuple(("hall", (key,), "go") for key in "abcdefghijklm")
        text = " ; ".join("hall: " + key + " = go" for key in "abcdefghijklm")
        self.check(written, binds, text)

    def test_more_than_the_most_rooms_and_ways(self):
        rooms = tuple((name, None) for name in "abcdefg")
        ways = tuple((name, "a") for name in "hijkl")
        text = "a, b, c, d, e, f, g | h > a, i > a, j > a, k > a, l > a"
        self.check(written_house, (rooms, ways), text)


if __name__ == "__main__":
    unittest.main()
