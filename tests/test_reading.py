"""[0.2] (a) and [1.2]: houses and maps are read from their texts, and from no others."""

import unittest

from chance import drawn_pairs
from keydeeds.errors import DeedError, NoText
from keydeeds.reading import read, read_house
from keydeeds.things import is_house, is_map
from keydeeds.writing import written, written_house
from samples import HOUSE, HOUSE_TEXTS, MAP, MAP_TEXTS, AskingTests
from spoiling import is_house_text, is_map_text, spoilt

WIDE_HOUSE = (HOUSE[0] + (("a", None), ("b", "a")), HOUSE[1])

SPOILT_HOUSES = {
    "the empty text": ("", " ", " | ", "|"),
    "a word less": ("hall |", "| none", "hall none", "hall, attic < | none", "hall | go >", "hall | > hall"),
    "a word twice": ("hall hall | none", "hall | none none", "hall | go go > hall", "hall, b < hall hall | none"),
    "a sign twice": ("hall,, b | none", "hall || none", "hall, b << hall | none", "hall | go >> hall"),
    "two words exchanged": ("none | hall", "hall, hall < b | none", "hall | hall > go", "| hall none"),
    "another word": ("hall | nil", "hall | -", "hall, b > hall | none", "hall | go < hall", "hall / none"),
    "the bar missing": ("hall", "hall, none", "hall none", "hall  none", "none", "hall, go > hall", "go > hall"),
    "the bar twice": ("hall | | none", "hall | none |", "hall | none | none", "| hall | none", "a | b | none"),
    "a room told twice": ("a, a | none", "a, b < a, a | none", "a, b, b < a | none", "a, b < a, b < a | none"),
    "an outer one behind or missing": ("a < b, b | none", "a, b < c, c | none", "a < a | none", "a, b < x | none"),
    "two outer ones": ("a, b, c < b < a | none", "a, b, c < a < b | none", "a, b < a < a | none"),
    "ways that do not rise": ("a | in > a, go > a", "a | gon > a, go > a", "a | a > a, c > a, b > a"),
    "the same deed twice": ("a | go > a, go > a", "a, b | go > a, go > b", "a | a > a, go > a, go > a"),
    "a way into no room": ("a | go > b", "a | go > go", "a | go > none", "a, b | go > ab", "a | go > a, in > c"),
    "seven rooms": ("a, b, c, d, e, f, g | none",),
    "five ways": ("a | a > a, b > a, c > a, d > a, e > a",),
    "names that are none": (
        "Hall | none", "hallway | none", "h1 | none", "h-l | none", "a, hallway < a | none", "a | climber > a",
        "a | Go > a", "a | g0 > a", "a | - > a", "1 | none", "~ | none", "a, < a | none", "a, , b | none",
    ),
    "none beside other ways": ("a | none, go > a", "a | go > a, none", "a | none, none", "a | go > a none"),
    "no ways and no none": ("a | ", "a |", "a | , "),
    "a comma too many": ("a, | none", ", a | none", "a | go > a,", "a | , go > a", "a, | go > a", "a | none,"),
    "a map's text": ("a: a = go", "none", "a: a = -"),
}

SPOILT_MAPS = {
    "the empty text": ("", " ", "-", ";", "=", " ; "),
    "helpers in another order": ("hall: m-c-a = go", "hall: s-c-a = go", "hall: s-m-a = go", "hall: a s-m-c-b = go"),
    "helpers twice": ("hall: c-c-a = go", "hall: a m-m-b = go", "hall: c-m-c-a = go", "hall: s-s-up = go"),
    "keys that are none": (
        "hall: A = go", "hall: ab = go", "hall: 10 = go", "hall: c- = go", "hall: - = go", "hall: left = go",
        "hall: a left = go", "hall: x-a = go", "hall: a : = go", "hall: Enter = go", "hall: a = b = go",
    ),
    "four keys": ("hall: a b c d = go", "hall: a a a a = -"),
    "no keys": ("hall:  = go", "hall: = go", "hall = go", "hall:= go", "hall: go", "hall:   = go"),
    "a room that is not the house's": ("cellar: a = go", "climb: a = go", "none: a = go", "Hall: a = go", ": a = go"),
    "deeds that are none": (
        "hall: a = Go", "hall: a = climber", "hall: a = g1", "hall: a = g o", "hall: a = ", "hall: a =", "hall: a",
        "hall: a = --", "hall: a = None", "hall: a = c-a", "hall: a = -a", "hall: a = go-",
    ),
    "the same room and keys twice": (
        "hall: a = go ; hall: a = go", "hall: a = go ; hall: a = in", "hall: a = go ; hall: a = -",
        "hall: a b = go ; attic: a b = go ; hall: a b = in",
    ),
    "thirteen binds": (" ; ".join(f"hall: {key} = go" for key in "abcdefghijklm"),),
    "none beside binds": (
        "none ; hall: a = go", "hall: a = go ; none", "none ; none", "none none", "hall: a = go none", "none ;",
    ),
    "signs missing": (
        "hall a = go", "hall: a go", "hall: a = go hall: b = go", "hall: a = go ;", "; hall: a = go",
        "hall:a = go", "hall: a=go", "hall: a = go; hall: b = go", "hall: a = go ;hall: b = go",
    ),
    "signs twice": (
        "hall:: a = go", "hall: : a = go", "hall: a == go", "hall: a = = go", "hall: a = go ;; hall: b = go",
        "hall: a = go ; ; hall: b = go", "hall: hall: a = go", "hall: a = go = go",
    ),
    "a house's text": ("hall | none", "hall, attic < hall | climb > attic"),
}


class ReadingTests(AskingTests):
    def refused(self, asked, *handed):
        before = repr(handed)
        for _ in range(2):
            with self.assertRaises(NoText) as caught:
                asked(*handed)
            self.assertIs(type(caught.exception), NoText)
            self.assertIsInstance(caught.exception, DeedError)
            self.assertIsInstance(caught.exception, ValueError)
            self.assertEqual(repr(handed), before)

    def read_or_refused(self, is_text, thing_of, text_of, text):
        """True if the text was read, which it is just if it is a writing."""
        if is_text:
            self.assertEqual(text_of(self.ask(thing_of, text)), text)
        else:
            self.refused(thing_of, text)
        return is_text


class HouseTests(ReadingTests):
    def test_houses_from_their_texts(self):
        for house, text in HOUSE_TEXTS:
            self.assertEqual(self.ask(read_house, text), house)

    def test_each_house_that_is_written_is_read_again(self):
        for house, binds in drawn_pairs(300):
            self.assertEqual(self.ask(read_house, written_house(house)), house)

    def test_most_rooms_and_most_ways(self):
        rooms = self.ask(read_house, "abcdef, b, c, d, e, f | none")[0]
        self.assertEqual(len(rooms), 6)
        ways = self.ask(read_house, "a | a > a, b > a, c > a, defghi > a")[1]
        self.assertEqual(len(ways), 4)

    def test_none_is_a_name_too(self):
        self.assertEqual(self.ask(read_house, "none | none"), ((("none", None),), ()))
        self.assertEqual(self.ask(read_house, "a | none > a"), ((("a", None),), (("none", "a"),)))

    def test_texts_that_are_no_house_s(self):
        for fault, texts in SPOILT_HOUSES.items():
            for text in texts:
                with self.subTest(fault=fault, text=text):
                    self.refused(read_house, text)

    def test_blanks_more_or_less_at_each_place(self):
        for house, text in HOUSE_TEXTS:
            for at in range(len(text) + 1):
                self.refused(read_house, text[:at] + " " + text[at:])
            for at in range(len(text)):
                if text[at] == " ":
                    self.refused(read_house, text[:at] + text[at + 1:])

    def test_small_faults_at_each_place(self):
        many = 0
        for house, text in HOUSE_TEXTS:
            for other in spoilt(text):
                many += self.read_or_refused(is_house_text(other), read_house, written_house, other)
        # Some faults make other houses' texts, and those must not be refused.
        self.assertGreater(many, 500)


class MapTests(ReadingTests):
    def test_maps_from_their_texts(self):
        for binds, text in MAP_TEXTS:
            self.assertEqual(self.ask(read, WIDE_HOUSE, text), binds)

    def test_each_map_that_is_written_is_read_again(self):
        for house, binds in drawn_pairs(300):
            self.assertEqual(self.ask(read, house, written(binds)), binds)

    def test_every_key_is_read(self):
        bare = "abcdefghijklmnopqrstuvwxyz0123456789"
        for key in list(bare) + ["enter", "esc", "tab", "up", "down", "c-m-s-a", "m-1", "c-s-tab", "s-c", "c-c"]:
            self.assertEqual(self.ask(read, HOUSE, f"hall: {key} = go"), (("hall", (key,), "go"),))
            self.assertEqual(self.ask(read, HOUSE, f"hall: a b {key} = -"), (("hall", ("a", "b", key), None),))

    def test_twelve_binds(self):
        text = " ; ".join(f"hall: {key} = go" for key in "abcdefghijkl")
        self.assertEqual(len(self.ask(read, HOUSE, text)), 12)

    def test_the_same_keys_in_another_room_or_order(self):
        for text in ("hall: a b = go ; attic: a b = go", "hall: a b = go ; hall: b a = go ; hall: a = go"):
            self.assertEqual(written(self.ask(read, HOUSE, text)), text)

    def test_none_is_a_name_too(self):
        house = ((("none", None),), ())
        self.assertEqual(self.ask(read, house, "none: a = none"), (("none", ("a",), "none"),))
        self.assertEqual(self.ask(read, house, "none"), ())

    def test_it_hangs_on_the_house(self):
        other = ((("hut", None),), (("hall", "hut"),))
        self.refused(read, other, written(MAP))
        self.assertEqual(self.ask(read, other, "hut: a = go"), (("hut", ("a",), "go"),))
        self.refused(read, HOUSE, "hut: a = go")

    def test_texts_that_are_no_map_s(self):
        for fault, texts in SPOILT_MAPS.items():
            for text in texts:
                with self.subTest(fault=fault, text=text):
                    self.refused(read, HOUSE, text)

    def test_blanks_more_or_less_at_each_place(self):
        for binds, text in MAP_TEXTS:
            for at in range(len(text) + 1):
                self.refused(read, WIDE_HOUSE, text[:at] + " " + text[at:])
            for at in range(len(text)):
                if text[at] == " ":
                    self.refused(read, WIDE_HOUSE, text[:at] + text[at + 1:])

    def test_small_faults_at_each_place(self):
        many = 0
        for binds, text in MAP_TEXTS:
            for other in spoilt(text):
                fits = is_map_text(WIDE_HOUSE, other)
                many += self.read_or_refused(fits, lambda told: read(WIDE_HOUSE, told), written, other)
        # Some faults make other maps' texts, and those must not be refused.
        self.assertGreater(many, 500)

    def test_a_house_with_rooms_too_many_is_not_refused(self):
        house = (tuple((name, None) for name in "abcdefg"), tuple((name, "a") for name in "hijkl"))
        self.assertEqual(self.ask(read, house, "g: a = go ; a: a = -"), (("g", ("a",), "go"), ("a", ("a",), None)))
        self.refused(read, house, "h: a = go")


class BothTests(unittest.TestCase):
    def test_what_is_read_is_a_house_or_a_map(self):
        for house, binds in drawn_pairs(50):
            again = read_house(written_house(house))
            self.assertIs(is_house(again), True)
            self.assertIs(is_map(again, read(again, written(binds))), True)

    def test_unlike_things_have_unlike_texts(self):
        pairs = drawn_pairs(300)
        self.assertEqual(len({house for house, binds in pairs}), len({written_house(house) for house, binds in pairs}))
        self.assertEqual(len({binds for house, binds in pairs}), len({written(binds) for house, binds in pairs}))


if __name__ == "__main__":
    unittest.main()
