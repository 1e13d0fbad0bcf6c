"""[0.2] (e), [4.1] and [4.2]: binds that clash, that are of no use, that must go."""

import itertools
import unittest

from chance import drawn_pairs
from keydeeds.changing import changes, without
from keydeeds.clashing import clashes, cleared, useless
from keydeeds.holding import holder
from samples import HOUSE, AskingTests

# In this house nook lies in attic, attic in hall, and yard beside them.
A, B, C, AA, AB, BA, ABC = ("a",), ("b",), ("c",), ("a", "a"), ("a", "b"), ("b", "a"), ("a", "b", "c")
FEW_KEYS = ("a", "b")


def hall(*told):
    """The binds of these pairs of keys and a deed in the hall."""
    return tuple(("hall", keys, deed) for keys, deed in told)


def clashes_by_holders(house, binds):
    """The second opinion: each pair of numbers is asked of each room."""
    found = []
    for i, j in itertools.product(range(len(binds)), repeat=2):
        short, long = binds[i][1], binds[j][1]
        alike = len(short) < len(long) and all(one == other for one, other in zip(short, long))
        told = binds[i][2] is not None and binds[j][2] is not None
        rooms = [
            room for room, outer in house[0]
            if holder(house, binds, room, short) == i and holder(house, binds, room, long) == j
        ]
        if alike and told and rooms:
            found.append((i, j))
    return tuple(found)


def small_pairs(many, most):
    """Drawn houses and maps of at most so many binds, most of which clash."""
    return [(house, binds[:most]) for house, binds in drawn_pairs(many, FEW_KEYS, seed=21)]


class ClashesTests(AskingTests):
    def clashes(self, binds, house=HOUSE):
        return self.ask(clashes, house, binds)

    def test_no_binds_and_one_bind(self):
        self.assertEqual(self.clashes(()), ())
        self.assertEqual(self.clashes(hall((AB, "open"))), ())

    def test_rows_of_one_two_and_three_keys(self):
        self.assertEqual(self.clashes(hall((A, "open"), (AB, "shut"))), ((0, 1),))
        self.assertEqual(self.clashes(hall((A, "open"), (ABC, "shut"))), ((0, 1),))
        self.assertEqual(self.clashes(hall((AB, "open"), (ABC, "shut"))), ((0, 1),))
        self.assertEqual(self.clashes(hall((A, "open"), (AB, "in"), (ABC, "shut"))), ((0, 1), (0, 2), (1, 2)))

    def test_the_shorter_one_stands_first_in_the_pair(self):
        self.assertEqual(self.clashes(hall((ABC, "shut"), (AB, "in"), (A, "open"))), ((1, 0), (2, 0), (2, 1)))

    def test_rows_that_do_not_begin_one_another(self):
        self.assertEqual(self.clashes(hall((A, "open"), (B, "shut"), (C, "in"))), ())
        self.assertEqual(self.clashes(hall((B, "open"), (AB, "shut"), (C, "in"), (("a", "c", "b"), "go"))), ())
        self.assertEqual(self.clashes(hall((("b", "c"), "open"), (ABC, "shut"))), ())
        self.assertEqual(self.clashes(hall((("c-a",), "open"), (AB, "shut"), (("m-a",), "in"))), ())

    def test_the_same_key_again_and_again(self):
        binds = hall((A, "open"), (AA, "open"), (("a", "a", "a"), "open"))
        self.assertEqual(self.clashes(binds), ((0, 1), (0, 2), (1, 2)))

    def test_the_same_keys_do_not_clash(self):
        self.assertEqual(self.clashes((("hall", A, "open"), ("attic", A, "shut"))), ())
        self.assertEqual(self.clashes((("hall", AB, "open"), ("attic", AB, "shut"), ("yard", AB, "go"))), ())

    def test_the_same_deed_clashes_too(self):
        self.assertEqual(self.clashes(hall((A, "open"), (AB, "open"))), ((0, 1),))

    def test_a_room_that_lies_in_another(self):
        self.assertEqual(self.clashes((("hall", A, "open"), ("attic", AB, "shut"))), ((0, 1),))
        self.assertEqual(self.clashes((("attic", A, "open"), ("hall", AB, "shut"))), ((0, 1),))
        self.assertEqual(self.clashes((("nook", AB, "open"), ("hall", A, "shut"))), ((1, 0),))

    def test_rooms_beside_one_another(self):
        self.assertEqual(self.clashes((("hall", A, "open"), ("yard", AB, "shut"))), ())
        self.assertEqual(self.clashes((("nook", A, "open"), ("yard", AB, "shut"))), ())
        house = ((("hall", None), ("attic", "hall"), ("nook", "hall")), ())
        self.assertEqual(self.clashes((("attic", A, "open"), ("nook", AB, "shut")), house), ())

    def test_a_bind_that_is_no_holder_where_the_other_is(self):
        # In the attic another bind holds a, and further out there is no a b.
        binds = (("hall", A, "open"), ("attic", A, "look"), ("attic", AB, "shut"))
        self.assertEqual(self.clashes(binds), ((1, 2),))
        binds = (("hall", A, "open"), ("attic", A, "look"), ("nook", AB, "shut"))
        self.assertEqual(self.clashes(binds), ((1, 2),))
        binds = (("hall", AB, "open"), ("attic", AB, "look"), ("attic", A, "shut"))
        self.assertEqual(self.clashes(binds), ((2, 1),))

    def test_a_bind_that_holds_further_out_clashes_there_alone(self):
        binds = (("hall", A, "open"), ("hall", AB, "shut"), ("attic", A, "look"))
        self.assertEqual(self.clashes(binds), ((0, 1), (2, 1)))

    def test_a_pair_that_clashes_in_several_rooms_is_told_once(self):
        self.assertEqual(self.clashes(hall((AB, "shut"), (A, "open"))), ((1, 0),))

    def test_a_bind_whose_deed_is_none(self):
        self.assertEqual(self.clashes(hall((A, None), (AB, "shut"))), ())
        self.assertEqual(self.clashes(hall((A, "open"), (AB, None))), ())
        self.assertEqual(self.clashes(hall((A, None), (AB, None))), ())
        self.assertEqual(self.clashes(hall((A, "open"), (AB, None), (ABC, "in"))), ((0, 2),))

    def test_none_takes_away_what_would_clash_further_in(self):
        binds = (("hall", A, "open"), ("attic", A, None), ("attic", AB, "shut"))
        self.assertEqual(self.clashes(binds), ())
        binds = (("hall", A, "open"), ("attic", A, None), ("hall", AB, "shut"))
        self.assertEqual(self.clashes(binds), ((0, 2),))
        binds = (("hall", A, "open"), ("attic", A, None), ("nook", A, "in"), ("nook", AB, "shut"))
        self.assertEqual(self.clashes(binds), ((2, 3),))

    def test_pairs_rise(self):
        binds = hall((ABC, "in"), (BA, "go"), (A, "open"), (AA, "shut"), (B, "up"), (AB, "save"))
        self.assertEqual(self.clashes(binds), ((2, 0), (2, 3), (2, 5), (4, 1), (5, 0)))
        many = hall((A, "open"), *((("a", key), "go") for key in "abcdefghijk"))
        self.assertEqual(self.clashes(many), tuple((0, at) for at in range(1, 12)))

    def test_more_than_the_most(self):
        house = ((("a", None),) + tuple((new, old) for old, new in zip("abcdefgh", "bcdefghi")), ())
        binds = tuple(("a", (key,), "wander") for key in "abcdefghijklmno") + (("i", ("b", "b", "c", "d"), "go"),)
        self.assertEqual(self.clashes(binds, house), ((1, 15),))

    def test_all_clashes_of_drawn_maps(self):
        seen = set()
        for house, binds in drawn_pairs(100) + drawn_pairs(200, FEW_KEYS, seed=22):
            expected = clashes_by_holders(house, binds)
            self.assertEqual(self.clashes(binds, house), expected)
            seen.add(len(expected))
        self.assertLess({0, 1, 2, 3, 4, 5}, seen)


class UselessTests(AskingTests):
    def useless(self, binds, house=HOUSE):
        return self.ask(useless, house, binds)

    def test_no_binds(self):
        self.assertEqual(self.useless(()), ())

    def test_a_bind_without_which_a_row_is_missing(self):
        self.assertEqual(self.useless(hall((A, "open"))), ())
        self.assertEqual(self.useless((("nook", A, "open"), ("yard", A, "open"), ("hall", AB, "in"))), ())

    def test_none_that_takes_nothing_away(self):
        self.assertEqual(self.useless(hall((A, None))), (0,))
        self.assertEqual(self.useless((("hall", A, "open"), ("yard", A, None))), (1,))
        self.assertEqual(self.useless((("hall", A, None), ("attic", A, "open"))), (0,))
        self.assertEqual(self.useless((("hall", AB, "open"), ("attic", A, None))), (1,))

    def test_none_that_takes_something_away(self):
        self.assertEqual(self.useless((("hall", A, "open"), ("attic", A, None))), ())
        self.assertEqual(self.useless((("nook", A, None), ("hall", A, "open"))), ())

    def test_none_behind_none(self):
        binds = (("hall", A, "open"), ("attic", A, None), ("nook", A, None))
        self.assertEqual(self.useless(binds), (2,))
        # Without the middle one the attic would have the row of the hall.
        self.assertEqual(self.useless(binds[:2]), ())
        self.assertEqual(self.useless(binds[1:]), (0, 1))

    def test_each_room_binds_anew(self):
        house = ((("hall", None), ("attic", "hall"), ("nook", "attic")), ())
        binds = (("hall", A, "open"), ("attic", A, "shut"), ("nook", A, "in"))
        # In its own room each still holds.
        self.assertEqual(self.useless(binds, house), ())
        binds = (("hall", A, "open"), ("attic", A, None), ("nook", A, "in"))
        self.assertEqual(self.useless(binds, house), ())
        binds = (("hall", A, None), ("attic", A, "shut"), ("nook", A, None))
        self.assertEqual(self.useless(binds, house), (0,))

    def test_the_same_deed_further_in_and_further_out(self):
        self.assertEqual(self.useless((("hall", A, "open"), ("attic", A, "open"))), (1,))
        self.assertEqual(self.useless((("nook", A, "open"), ("hall", A, "open"))), (0,))
        self.assertEqual(self.useless((("hall", A, "open"), ("attic", A, "open"), ("nook", A, "open"))), (1, 2))

    def test_the_same_deed_with_another_between(self):
        self.assertEqual(self.useless((("hall", A, "open"), ("attic", A, "shut"), ("nook", A, "open"))), ())
        self.assertEqual(self.useless((("hall", A, "open"), ("attic", A, None), ("nook", A, "open"))), ())

    def test_the_same_deed_in_a_room_beside_or_of_other_keys(self):
        self.assertEqual(self.useless((("hall", A, "open"), ("yard", A, "open"), ("attic", B, "open"))), ())

    def test_numbers_rise(self):
        binds = hall((A, None), (B, "open"), (C, None), (AB, "shut"), (ABC, None)) + (("attic", B, "open"),)
        self.assertEqual(self.useless(binds), (0, 2, 4, 5))
        many = tuple(("yard", (key,), None) for key in "abcdefghijklmn")
        self.assertEqual(self.useless(many), tuple(range(14)))

    def test_just_these_can_go_without_any_change(self):
        seen = set()
        for house, binds in drawn_pairs(150, ("a", "b", "c-a"), seed=23):
            expected = [
                number for number in range(len(binds))
                if changes(house, binds, binds[:number] + binds[number + 1:]) == ()
            ]
            told = self.useless(binds, house)
            self.assertEqual(told, tuple(expected))
            self.assertEqual(changes(house, binds, without(binds, told)), ())
            seen.add(len(expected))
        self.assertLess({0, 1, 2, 3}, seen)


class ClearedTests(AskingTests):
    def cleared(self, binds, house=HOUSE):
        """What is told, which must rise, and without which there must be no clashes."""
        told = self.ask(cleared, house, binds)
        self.assertEqual(told, tuple(sorted(set(told))))
        self.assertTrue(all(0 <= number < len(binds) for number in told))
        self.assertEqual(clashes_by_holders(house, without(binds, told)), ())
        return told

    def test_maps_without_clashes(self):
        self.assertEqual(self.cleared(()), ())
        self.assertEqual(self.cleared(hall((A, "open"), (B, "shut"), (("c", "a"), "go"))), ())
        self.assertEqual(self.cleared((("hall", A, "open"), ("yard", AB, "shut"))), ())
        self.assertEqual(self.cleared(hall((A, None), (AB, "shut"))), ())

    def test_one_clash(self):
        self.assertIn(self.cleared(hall((A, "open"), (AB, "shut"))), ((0,), (1,)))

    def test_one_bind_that_clashes_with_several(self):
        short = hall((AA, "go"), (AB, "in"), (A, "open"), (ABC, "shut"), (("a", "c"), "up"))
        self.assertIn(self.cleared(short), ((1, 2), (2, 3)))
        binds = hall((AA, "go"), (A, "open"), (("a", "c"), "up"), (("a", "d", "e"), "in"))
        self.assertEqual(self.cleared(binds), (1,))
        binds = (("hall", A, "open"), ("attic", ABC, "shut"), ("nook", AB, "in"))
        self.assertEqual(len(self.cleared(binds)), 2)

    def test_the_longest_of_several_goes(self):
        binds = (("attic", A, "open"), ("nook", AB, "in"), ("yard", A, "go"), ("yard", AB, "up"), ("hall", ABC, "shut"))
        self.assertEqual(len(self.cleared(binds)), 3)
        binds = (("attic", A, "open"), ("hall", ABC, "shut"), ("nook", A, "in"))
        self.assertEqual(self.cleared(binds), (1,))

    def test_a_row_of_binds_each_of_which_begins_the_next(self):
        self.assertEqual(len(self.cleared(hall((A, "open"), (AB, "shut"), (ABC, "in")))), 2)

    def test_what_goes_lets_another_hold_that_clashes_too(self):
        # Without the attic's own a, the hall's a clashes there.
        binds = (("hall", A, "open"), ("attic", A, "look"), ("attic", AB, "shut"), ("attic", ("a", "c"), "in"))
        self.assertEqual(len(self.cleared(binds)), 2)
        binds = binds[:3] + (("yard", A, "go"),)
        self.assertEqual(self.cleared(binds), (2,))

    def test_what_was_taken_away_comes_back(self):
        # None in the attic goes by no means: it keeps the hall's a away.
        binds = (("hall", A, "open"), ("attic", A, None), ("attic", AB, "shut"), ("nook", A, "in"))
        self.assertIn(self.cleared(binds), ((2,), (3,)))

    def test_all_of_six_and_seven(self):
        binds = hall((A, "open"), (AB, "a"), (ABC, "b"), (B, "c"), (BA, "d"), (("b", "a", "a"), "e"), (C, "f"))
        self.assertEqual(len(self.cleared(binds)), 4)
        self.assertEqual(len(self.cleared(binds[:6])), 4)

    def test_more_than_seven(self):
        rooms = "abcdefgh"
        house = ((("a", None),) + tuple((new, old) for old, new in zip(rooms, rooms[1:])), ())
        binds = tuple((room, keys, "go") for room in rooms for keys in (A, AB))
        self.assertIn(self.cleared(binds, house), (tuple(range(0, 16, 2)), tuple(range(1, 16, 2))))

    def test_no_fewer_would_do(self):
        seen = set()
        for house, binds in small_pairs(250, 7):
            told = self.cleared(binds, house)
            # All fewer ones: what goes may let others clash, so more do not always do.
            for many in range(len(told)):
                for numbers in itertools.combinations(range(len(binds)), many):
                    self.assertNotEqual(clashes_by_holders(house, without(binds, numbers)), ())
            seen.add(len(told))
        self.assertLessEqual({0, 1, 2, 3}, seen)


if __name__ == "__main__":
    unittest.main()
