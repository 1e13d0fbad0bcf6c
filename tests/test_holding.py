"""[0.2] (b) and [2.1]: the innermost bind of a row of keys holds."""

import unittest

from chance import drawn_pairs
from keydeeds.holding import holder, rows
from samples import AskingTests

# The rooms lie up to four deep; yard and shed lie beside them.
HOUSE = (
    (("hall", None), ("attic", "hall"), ("yard", None), ("nook", "attic"), ("shed", "yard"), ("box", "nook")),
    (("climb", "attic"),),
)
A, B, AB, ABC = ("a",), ("b",), ("a", "b"), ("a", "b", "c")


def outer_of(house, room):
    return [outer for name, outer in house[0] if name == room][0]


def second_opinion(house, binds, room, keys):
    """The number of the bind that holds, found from the room outwards, one step at a time."""
    here = [number for number, bind in enumerate(binds) if bind[:2] == (room, keys)]
    if here:
        return here[0]
    outer = outer_of(house, room)
    return None if outer is None else second_opinion(house, binds, outer, keys)


class RowTests(AskingTests):
    def rows(self, binds, room, house=HOUSE):
        return self.ask(rows, house, binds, room)

    def test_an_empty_map(self):
        for room, outer in HOUSE[0]:
            self.assertEqual(self.rows((), room), ())

    def test_a_room_without_an_outer_one(self):
        binds = (("hall", A, "open"), ("hall", AB, "save"))
        self.assertEqual(self.rows(binds, "hall"), ((A, "open"), (AB, "save")))

    def test_rooms_two_and_three_and_four_deep(self):
        binds = (("hall", A, "open"),)
        for room in ("hall", "attic", "nook", "box"):
            self.assertEqual(self.rows(binds, room), ((A, "open"),))

    def test_what_is_bound_further_in_is_not_seen_further_out(self):
        binds = (("nook", A, "open"),)
        self.assertEqual(self.rows(binds, "hall"), ())
        self.assertEqual(self.rows(binds, "attic"), ())
        self.assertEqual(self.rows(binds, "nook"), ((A, "open"),))
        self.assertEqual(self.rows(binds, "box"), ((A, "open"),))

    def test_the_innermost_bind_holds_wherever_it_stands(self):
        binds = (("hall", A, "outer"), ("attic", A, "middle"), ("nook", A, "inner"))
        for told in (binds, binds[::-1], binds[1:] + binds[:1]):
            self.assertEqual(self.rows(told, "hall"), ((A, "outer"),))
            self.assertEqual(self.rows(told, "attic"), ((A, "middle"),))
            self.assertEqual(self.rows(told, "nook"), ((A, "inner"),))
            self.assertEqual(self.rows(told, "box"), ((A, "inner"),))

    def test_none_takes_away_what_is_bound_further_out(self):
        binds = (("hall", A, "open"), ("attic", A, None), ("hall", B, "shut"))
        self.assertEqual(self.rows(binds, "hall"), ((A, "open"), (B, "shut")))
        self.assertEqual(self.rows(binds, "attic"), ((B, "shut"),))
        self.assertEqual(self.rows(binds, "nook"), ((B, "shut"),))

    def test_what_was_taken_away_is_bound_again_further_in(self):
        binds = (("hall", A, "open"), ("attic", A, None), ("nook", A, "again"))
        self.assertEqual(self.rows(binds, "attic"), ())
        self.assertEqual(self.rows(binds, "box"), ((A, "again"),))

    def test_none_with_nothing_to_take_away(self):
        binds = (("hall", A, None), ("attic", B, "open"))
        self.assertEqual(self.rows(binds, "hall"), ())
        self.assertEqual(self.rows(binds, "attic"), ((B, "open"),))

    def test_none_takes_away_just_its_own_keys(self):
        binds = (("hall", A, "open"), ("hall", AB, "save"), ("hall", ABC, "shut"), ("attic", AB, None))
        self.assertEqual(self.rows(binds, "attic"), ((A, "open"), (ABC, "shut")))

    def test_a_room_beside_does_not_count(self):
        binds = (("yard", A, "dig"), ("shed", B, "chop"))
        for room in ("hall", "attic", "nook", "box"):
            self.assertEqual(self.rows(binds, room), ())
        self.assertEqual(self.rows(binds, "yard"), ((A, "dig"),))
        self.assertEqual(self.rows(binds, "shed"), ((A, "dig"), (B, "chop")))

    def test_rows_rise(self):
        keys = (("tab",), ("b", "a"), ("c-a",), ("0",), ("a", "c"), ("a",), ("a", "b", "c"), ("a", "b"), ("enter",))
        binds = tuple(("hall", row, "z" if at % 2 else "a") for at, row in enumerate(keys))
        risen = (
            ("0",), ("a",), ("a", "b"), ("a", "b", "c"), ("a", "c"), ("b", "a"), ("c-a",), ("enter",), ("tab",),
        )
        for told in (binds, binds[::-1]):
            self.assertEqual(tuple(row for row, deed in self.rows(told, "hall")), risen)

    def test_rows_of_several_rooms_rise_together(self):
        binds = (("hall", B, "shut"), ("attic", A, "open"), ("nook", ("c",), "go"), ("hall", ("0",), "in"))
        self.assertEqual(self.rows(binds, "nook"), ((("0",), "in"), (A, "open"), (B, "shut"), (("c",), "go")))

    def test_the_same_deed_of_several_rows(self):
        binds = (("hall", A, "open"), ("hall", B, "open"))
        self.assertEqual(self.rows(binds, "hall"), ((A, "open"), (B, "open")))

    def test_more_than_the_most(self):
        house = ((("a", None),) + tuple((new, old) for old, new in zip("abcdefgh", "bcdefghi")), ())
        binds = tuple(("a", (key,), "wander") for key in "abcdefghijklmno") + (("h", ("a", "b", "c", "d"), "go"),)
        told = self.rows(binds, "i", house)
        self.assertEqual(len(told), 16)
        self.assertEqual(told[1], (("a", "b", "c", "d"), "go"))

    def test_all_rows_of_drawn_maps(self):
        for house, binds in drawn_pairs(150):
            for room, outer in house[0]:
                expected = []
                for keys in sorted({keys for place, keys, deed in binds}):
                    number = second_opinion(house, binds, room, keys)
                    if number is not None and binds[number][2] is not None:
                        expected.append((keys, binds[number][2]))
                self.assertEqual(self.rows(binds, room, house), tuple(expected))


class HolderTests(AskingTests):
    def holder(self, binds, room, keys, house=HOUSE):
        return self.ask(holder, house, binds, room, keys)

    def test_numbers_are_counted_from_nought(self):
        binds = (("hall", A, "open"), ("hall", B, "shut"), ("hall", AB, "save"))
        self.assertEqual(self.holder(binds, "hall", A), 0)
        self.assertEqual(self.holder(binds, "hall", B), 1)
        self.assertEqual(self.holder(binds, "hall", AB), 2)

    def test_keys_that_nothing_holds(self):
        binds = (("hall", AB, "open"), ("yard", B, "dig"), ("nook", ("c",), "go"))
        for keys in (A, B, ABC, ("c",), ("b", "a"), ("c-a",), ("x",)):
            self.assertIs(self.holder(binds, "hall", keys), None)
        self.assertIs(self.holder((), "hall", A), None)

    def test_the_innermost_one_is_the_holder(self):
        binds = (("nook", A, "inner"), ("hall", A, "outer"), ("attic", A, "middle"))
        self.assertEqual(self.holder(binds, "hall", A), 1)
        self.assertEqual(self.holder(binds, "attic", A), 2)
        self.assertEqual(self.holder(binds, "nook", A), 0)
        self.assertEqual(self.holder(binds, "box", A), 0)

    def test_a_bind_with_none_is_a_holder(self):
        binds = (("hall", A, "open"), ("attic", A, None), ("yard", B, None))
        self.assertEqual(self.holder(binds, "hall", A), 0)
        self.assertEqual(self.holder(binds, "attic", A), 1)
        self.assertEqual(self.holder(binds, "nook", A), 1)
        self.assertEqual(self.holder(binds, "yard", B), 2)
        self.assertEqual(self.holder(binds, "shed", B), 2)

    def test_a_room_beside_does_not_count(self):
        binds = (("yard", A, "dig"),)
        self.assertIs(self.holder(binds, "hall", A), None)
        self.assertIs(self.holder(binds, "nook", A), None)
        self.assertEqual(self.holder(binds, "shed", A), 0)

    def test_all_holders_of_drawn_maps(self):
        for house, binds in drawn_pairs(150):
            for room, outer in house[0]:
                for keys in [keys for place, keys, deed in binds] + [("x",), ("a", "x")]:
                    expected = second_opinion(house, binds, room, keys)
                    self.assertIs(self.holder(binds, room, keys, house), expected)


if __name__ == "__main__":
    unittest.main()
