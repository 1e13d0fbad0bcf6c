"""[0.3], [0.4], [0.5] and [1.1]: which things are houses."""

import copy
import unittest

from keydeeds.things import is_house
from samples import HOUSE, MAP, NEVER_PARTS, ODD_THINGS, deep_things, places, replaced, with_lists

ROOMS = (("a", None), ("b", "a"), ("c", "b"), ("d", None), ("e", "d"), ("f", "a"), ("g", "f"))
WAYS = (("go", "a"), ("in", "b"), ("on", "a"), ("out", "c"), ("up", "b"))


def one_room(name):
    return (((name, None),), ())


def may_be_none(path):
    return len(path) == 3 and path[0] == 0 and path[2] == 1


class HouseTests(unittest.TestCase):
    def yes(self, thing):
        self.assertIs(is_house(thing), True, repr(thing))

    def no(self, thing):
        self.assertIs(is_house(thing), False, repr(thing))

    def test_ordinary_houses(self):
        self.yes(HOUSE)
        self.yes((HOUSE[0], ()))
        self.yes(((("a", None),), (("go", "a"),)))

    def test_how_many_rooms(self):
        self.no(((), ()))
        for many in (1, 2, 3, 4, 5, 6):
            self.yes((ROOMS[:many], ()))
        self.no((ROOMS, ()))

    def test_names_of_rooms(self):
        for name in ("a", "z", "ab", "hallwa", "none"):
            self.yes(one_room(name))
        for name in ("", "hallway", "Hall", "halL", "hal1", "1", "ha l", " a", "a ", "a-b", "-", "c-a", "a\n", "\u00e9"):
            self.no(one_room(name))

    def test_a_room_told_twice(self):
        self.no(((("a", None), ("a", None)), ()))
        self.no(((("a", None), ("b", "a"), ("a", "b")), ()))
        self.no(((("a", None), ("b", None), ("b", "a")), ()))

    def test_outer_rooms(self):
        self.yes(((("a", None), ("b", "a"), ("c", "a"), ("d", "c")), ()))
        self.yes(((("b", None), ("a", "b")), ()))
        self.no(((("a", "b"), ("b", None)), ()))
        self.no(((("a", None), ("b", "c"), ("c", "a")), ()))
        self.no(((("a", None), ("b", "x")), ()))
        self.no(((("a", "a"),), ()))
        self.no(((("a", None), ("b", "b")), ()))

    def test_how_many_ways(self):
        for many in (0, 1, 2, 3, 4):
            self.yes((ROOMS[:3], WAYS[:many]))
        self.no((ROOMS[:3], WAYS))

    def test_ways_rise(self):
        self.no((ROOMS[:3], (("in", "a"), ("go", "b"))))
        self.no((ROOMS[:3], (("go", "a"), ("out", "b"), ("in", "c"))))
        self.yes((ROOMS[:3], (("go", "c"), ("in", "a"))))
        self.yes((ROOMS[:3], (("go", "a"), ("gon", "a"))))
        self.no((ROOMS[:3], (("gon", "a"), ("go", "a"))))

    def test_the_same_deed_twice(self):
        self.no((ROOMS[:3], (("go", "a"), ("go", "a"))))
        self.no((ROOMS[:3], (("go", "a"), ("go", "b"))))
        self.no((ROOMS[:3], (("go", "a"), ("in", "b"), ("in", "c"))))

    def test_a_way_into_no_room_of_the_house(self):
        self.no((ROOMS[:3], (("go", "d"),)))
        self.no((ROOMS[:3], (("go", "a"), ("in", "go"))))
        self.no((ROOMS[:3], (("go", None),)))

    def test_deeds_of_ways_are_names(self):
        for deed in ("", "climber", "Climb", "go1", "g o", None, 1, True, ("go",), ["go"]):
            self.no((ROOMS[:3], ((deed, "a"),)))
        for deed in ("a", "climbe"):
            self.yes((ROOMS[:3], ((deed, "a"),)))

    def test_a_part_less_or_more(self):
        rooms, ways = HOUSE
        for thing in ((), (rooms,), (rooms, ways, ()), (rooms, ways, ways), rooms, ways):
            self.no(thing)
        for pair in ((), ("a",), ("a", None, None)):
            self.no(((pair,), ()))
            self.no(((("b", None), pair), ()))
        for way in ((), ("go",), ("go", "a", "a"), ("go", "a", None)):
            self.no((ROOMS[:3], (way,)))
            self.no((ROOMS[:3], (("ahead", "a"), way)))

    def test_texts_are_no_pairs(self):
        self.no((("ab",), ()))
        self.no((("ab", "ba"), ()))
        self.no((ROOMS[:3], ("ga",)))
        self.no("ab")

    def test_another_thing_in_place_of_any_part(self):
        for path in places(HOUSE):
            for part in NEVER_PARTS:
                if not (path == (1,) and part == () and isinstance(part, tuple)):
                    self.no(replaced(HOUSE, path, part))

    def test_none_in_place_of_any_part(self):
        for path in places(HOUSE):
            changed = replaced(HOUSE, path, None)
            if may_be_none(path):
                self.yes(changed)
            else:
                self.no(changed)

    def test_a_list_in_place_of_any_tuple(self):
        changed = with_lists(HOUSE)
        self.assertEqual(len(changed), 9)
        for thing in changed:
            self.no(thing)
        self.no(((("a", None),), []))

    def test_other_things(self):
        for thing in ODD_THINGS + ("", "hall", "hall | none", MAP):
            self.no(thing)

    def test_deep_things(self):
        for thing in deep_things():
            self.no(thing)
            for path in places(HOUSE):
                self.no(replaced(HOUSE, path, thing))

    def test_handed_in_is_unchanged_and_told_the_same_again(self):
        for thing in [HOUSE, (ROOMS, WAYS)] + with_lists(HOUSE) + list(ODD_THINGS) + deep_things():
            before = repr(copy.deepcopy(thing))
            first = is_house(thing)
            self.assertEqual(repr(thing), before)
            self.assertIs(is_house(thing), first)


if __name__ == "__main__":
    unittest.main()
