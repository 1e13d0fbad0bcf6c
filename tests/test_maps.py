"""[0.3], [0.4], [0.6] and [1.1]: which things are maps of a house."""

import copy
import unittest

from keydeeds.things import is_map
from samples import HOUSE, MAP, NEVER_PARTS, ODD_THINGS, deep_things, part_at, places, replaced, with_lists

KEYS = "abcdefghijklm"


def with_keys(*keys):
    return (("hall", keys, "go"),)


def with_deed(deed):
    return (("hall", ("a",), deed),)


class MapTests(unittest.TestCase):
    def yes(self, thing, house=HOUSE):
        self.assertIs(is_map(house, thing), True, repr(thing))

    def no(self, thing, house=HOUSE):
        self.assertIs(is_map(house, thing), False, repr(thing))

    def test_an_ordinary_map(self):
        self.yes(MAP)

    def test_how_many_binds(self):
        binds = tuple(("hall", (key,), "go") for key in KEYS)
        for many in range(13):
            self.yes(binds[:many])
        self.no(binds)

    def test_how_many_keys(self):
        self.no(with_keys())
        self.yes(with_keys("a"))
        self.yes(with_keys("a", "b"))
        self.yes(with_keys("a", "b", "c"))
        self.no(with_keys("a", "b", "c", "d"))

    def test_the_same_key_again_in_a_row(self):
        self.yes(with_keys("a", "a", "a"))

    def test_keys_are_keys(self):
        for key in ("A", "", "ab", "m-c-a", "c-", 1, True, None, ("a",), ["a"]):
            self.no(with_keys(key))
            self.no(with_keys("a", key))
            self.no(with_keys("a", "b", key))
        for key in ("0", "z", "c-m-s-down", "enter"):
            self.yes(with_keys("a", "b", key))

    def test_a_text_is_no_row_of_keys(self):
        self.no((("hall", "a", "go"),))
        self.no((("hall", "ab", "go"),))

    def test_deeds(self):
        for deed in ("a", "go", "abcdef", "none", None):
            self.yes(with_deed(deed))
        for deed in ("", "abcdefg", "Go", "gO", "go1", "g o", "-", "c-a", 0, 1, True, False, (), ("go",), ["go"]):
            self.no(with_deed(deed))

    def test_a_deed_of_the_house_s_ways_and_another(self):
        self.yes(with_deed("climb"))
        self.yes(with_deed("walk"))

    def test_rooms_are_the_house_s(self):
        for room in ("hall", "attic", "nook", "yard"):
            self.yes(((room, ("a",), "go"),))
        for room in ("cellar", "climb", "", "Hall", "hal", None, 0, True, ("hall",), ["hall"], ("hall", None)):
            self.no(((room, ("a",), "go"),))

    def test_it_hangs_on_the_house(self):
        other = ((("hut", None),), ())
        self.no(MAP, other)
        self.yes((("hut", ("a",), "go"),), other)
        self.no((("hut", ("a",), "go"),))
        self.yes((), other)

    def test_the_same_room_and_keys_twice(self):
        bind = ("hall", ("a", "b"), "go")
        self.no((bind, bind))
        self.no((bind, ("hall", ("a", "b"), "stay")))
        self.no((bind, ("hall", ("a", "b"), None)))
        self.no((bind, ("hall", ("c",), "go"), ("hall", ("a", "b"), "stay")))
        self.no(MAP + (MAP[0],))

    def test_the_same_room_or_the_same_keys_twice(self):
        bind = ("hall", ("a", "b"), "go")
        self.yes((bind, ("attic", ("a", "b"), "go")))
        self.yes((bind, ("hall", ("b", "a"), "go")))
        self.yes((bind, ("hall", ("a",), "go")))
        self.yes((bind, ("hall", ("a", "b", "a"), "go")))

    def test_binds_need_no_order(self):
        self.yes(MAP[::-1])

    def test_triples_with_a_part_less_or_more(self):
        for bind in ((), ("hall",), ("hall", ("a",)), ("hall", ("a",), "go", "go"), ("hall", ("a",), "go", None)):
            self.no((bind,))
            self.no((MAP[0], bind))

    def test_a_bind_alone_is_no_map(self):
        self.no(MAP[0])

    def test_another_thing_in_place_of_any_part(self):
        for path in places(MAP):
            for part in NEVER_PARTS:
                if not (path == () and part == () and isinstance(part, tuple)):
                    self.no(replaced(MAP, path, part))

    def test_none_in_place_of_any_part(self):
        for path in places(MAP):
            changed = replaced(MAP, path, None)
            if len(path) == 2 and path[1] == 2:
                self.yes(changed)
            else:
                self.no(changed)

    def test_a_list_in_place_of_any_tuple(self):
        changed = with_lists(MAP)
        self.assertEqual(len(changed), 9)
        for thing in changed:
            self.no(thing)
        self.no([])

    def test_other_things(self):
        for thing in ODD_THINGS + ("", "none", "hall: a = open", HOUSE):
            if thing != ():
                self.no(thing)

    def test_deep_things(self):
        for thing in deep_things():
            self.no(thing)
            for path in places(MAP):
                self.no(replaced(MAP, path, thing))

    def test_what_is_no_house_has_no_maps(self):
        for house in list(ODD_THINGS) + with_lists(HOUSE) + deep_things() + ["hall", part_at(HOUSE, (0,))]:
            self.no((), house)
            self.no(MAP, house)

    def test_handed_in_is_unchanged_and_told_the_same_again(self):
        for thing in [MAP, MAP + MAP] + with_lists(MAP) + list(ODD_THINGS) + deep_things():
            before = repr(copy.deepcopy((HOUSE, thing)))
            first = is_map(HOUSE, thing)
            self.assertEqual(repr((HOUSE, thing)), before)
            self.assertIs(is_map(HOUSE, thing), first)


if __name__ == "__main__":
    unittest.main()
