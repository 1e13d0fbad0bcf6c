"""[0.2] (f) and [7.2]: rows of keys for deeds, with the fewest presses."""

import itertools
import random
import unittest

from keydeeds.coding import coded, presses
from keydeeds.errors import DeedError, NoRoom, NoText
from keydeeds.things import is_map
from samples import AskingTests

KEYS = ("a", "c-x", "enter", "0")
DEEDS = ("open", "save", "go", "in", "up", "shut", "climb", "leave", "dig", "a", "b", "c", "d", "e", "f")


def used(*many):
    """Uses of so many deeds, as often as told."""
    return tuple(zip(DEEDS, many))


def drawn_uses(draw, many):
    most = draw.choice((1, 3, 10, 99))
    return used(*(draw.randint(1, most) for _ in range(many)))


def all_rows(keys):
    return [row for many in (1, 2, 3) for row in itertools.product(keys, repeat=many)]


def apart(chosen):
    """True if none of the rows is the beginning of another."""
    return not any(one == other[:len(one)] for one, other in itertools.permutations(chosen, 2))


def fewest_of_all_rows(uses, keys):
    """The fewest presses, found by trying all choices of rows; None if there are none."""
    most_first = sorted([many for deed, many in uses], reverse=True)
    found = []
    for chosen in itertools.combinations(all_rows(keys), len(uses)):
        if apart(chosen):
            # The rows come shortest first.
            found.append(sum(many * len(row) for many, row in zip(most_first, chosen)))
    return min(found, default=None)


def fewest_of_all_lengths(uses, keys):
    """The fewest presses, found by trying all lengths that leave room for one another.

    Each row of one key takes away so many rows of three keys as there are
    pairs of keys, and so on: together they may take away no more than all.
    """
    most_first = sorted([many for deed, many in uses], reverse=True)
    found = []
    for lengths in itertools.combinations_with_replacement((1, 2, 3), len(uses)):
        if sum(len(keys) ** (3 - length) for length in lengths) <= len(keys) ** 3:
            found.append(sum(many * length for many, length in zip(most_first, lengths)))
    return min(found, default=None)


class CodedTests(AskingTests):
    def coded(self, uses, keys):
        """What is told, which must be rows as they are promised."""
        told = self.ask(coded, uses, keys)
        self.assertEqual([deed for deed, row in told], [deed for deed, many in uses])
        chosen = [row for deed, row in told]
        for row in chosen:
            self.assertIn(row, all_rows(keys))
        self.assertTrue(apart(chosen), chosen)
        return told

    def fewest(self, uses, keys):
        return presses(uses, self.coded(uses, keys))

    def lengths(self, uses, keys):
        return [len(row) for deed, row in self.coded(uses, keys)]

    def assert_no_room(self, uses, keys):
        with self.assertRaises(DeedError) as caught:
            coded(uses, keys)
        self.assertIs(type(caught.exception), NoRoom)

    def test_one_deed(self):
        for keys in (KEYS[:2], KEYS[:3], KEYS):
            for many in (1, 99):
                self.assertEqual(self.lengths(used(many), keys), [1])

    def test_as_many_deeds_as_keys(self):
        for many in (2, 3, 4):
            self.assertEqual(self.lengths(used(*range(1, many + 1)), KEYS[:many]), [1] * many)

    def test_one_more(self):
        self.assertEqual(self.lengths(used(5, 9, 7), KEYS[:2]), [2, 1, 2])
        self.assertEqual(self.lengths(used(9, 5, 7, 8), KEYS[:3]), [1, 2, 2, 1])
        self.assertEqual(self.lengths(used(9, 8, 2, 3, 7), KEYS), [1, 1, 2, 2, 1])

    def test_what_is_used_most_gets_the_shortest(self):
        self.assertEqual(self.lengths(used(1, 99, 2, 3), KEYS[:2]), [3, 1, 3, 2])
        self.assertEqual(sorted(self.lengths(used(99, 1, 50, 2), KEYS[:2])), [1, 2, 3, 3])

    def test_deeds_that_are_used_alike(self):
        self.assertEqual(self.lengths(used(1, 1, 1, 1), KEYS[:2]), [2, 2, 2, 2])
        self.assertEqual(self.fewest(used(3, 3, 3, 3), KEYS[:2]), 24)
        self.assertEqual(self.lengths(used(*[7] * 8), KEYS[:2]), [3] * 8)
        self.assertEqual(self.lengths(used(*[7] * 9), KEYS[:3]), [2] * 9)

    def test_the_most_used_is_not_always_one_key(self):
        # A single key for one of them would make all others longer.
        self.assertEqual(self.lengths(used(2, 2, 2, 1), KEYS[:2]), [2, 2, 2, 2])

    def test_twelve_deeds(self):
        uses = used(12, 3, 7, 99, 1, 5, 40, 2, 2, 60, 30, 8)
        self.assert_no_room(uses, KEYS[:2])
        for keys in (KEYS[:3], KEYS):
            self.assertEqual(self.fewest(uses, keys), fewest_of_all_lengths(uses, keys))

    def test_no_room_just_where_there_are_no_such_rows(self):
        for many in range(1, 13):
            uses = used(*range(1, many + 1))
            if many > 8:
                self.assert_no_room(uses, KEYS[:2])
            else:
                self.assertEqual(len(self.coded(uses, KEYS[:2])), many)
            self.assertEqual(len(self.coded(uses, KEYS[:3])), many)
            self.assertEqual(len(self.coded(uses, KEYS)), many)

    def test_no_choice_of_rows_needs_fewer_presses(self):
        draw = random.Random(51)
        for many_keys, most in ((2, 8), (3, 4), (4, 2)):
            keys = KEYS[:many_keys]
            for many in range(1, most + 1):
                uses = drawn_uses(draw, many)
                self.assertEqual(self.fewest(uses, keys), fewest_of_all_rows(uses, keys))
                self.assertEqual(fewest_of_all_lengths(uses, keys), fewest_of_all_rows(uses, keys))

    def test_no_lengths_need_fewer_presses(self):
        draw = random.Random(52)
        for keys in (KEYS[:2], KEYS[:3], KEYS):
            for many in list(range(1, 13)) * 8:
                uses = drawn_uses(draw, many)
                expected = fewest_of_all_lengths(uses, keys)
                if expected is None:
                    self.assert_no_room(uses, keys)
                else:
                    self.assertEqual(self.fewest(uses, keys), expected)

    def test_another_order_needs_as_many(self):
        draw = random.Random(53)
        for _ in range(40):
            uses = drawn_uses(draw, draw.randint(1, 12))
            other = tuple(draw.sample(uses, len(uses)))
            for keys in (KEYS[:3], KEYS):
                self.assertEqual(self.fewest(uses, keys), self.fewest(other, keys))
                self.assertEqual(self.fewest(uses, keys), self.fewest(uses, keys[::-1]))

    def test_what_is_told_can_be_bound(self):
        house = ((("hall", None),), ())
        uses = used(*range(1, 13))
        for keys in (KEYS[:3], KEYS):
            binds = tuple(("hall", row, deed) for deed, row in self.coded(uses, keys))
            self.assertIs(is_map(house, binds), True)

    def test_more_and_fewer_than_told(self):
        five = KEYS + ("tab",)
        for many in (13, 14, 15):
            uses = used(*(100 * at for at in range(many)))
            self.assert_no_room(uses, KEYS[:2])
            for keys in (KEYS[:3], KEYS, five):
                self.assertEqual(self.fewest(uses, keys), fewest_of_all_lengths(uses, keys))
        self.assertEqual(self.coded((), KEYS), ())
        self.assertEqual(self.lengths(used(3), KEYS[:1]), [1])
        self.assert_no_room(used(3, 4), KEYS[:1])

    def test_no_room_is_a_refusal_of_its_own(self):
        for caught in (NoRoom, DeedError, ValueError):
            with self.assertRaises(caught):
                coded(used(*[1] * 9), KEYS[:2])
        self.assertFalse(issubclass(NoRoom, NoText))


class PressesTests(AskingTests):
    def presses(self, uses, some):
        return self.ask(presses, uses, some)

    def test_each_deed_as_often_as_it_is_told(self):
        self.assertEqual(self.presses((("go", 1),), (("go", ("a",)),)), 1)
        self.assertEqual(self.presses((("go", 7),), (("go", ("a", "b", "b")),)), 21)
        some = (("go", ("a",)), ("in", ("b", "a")), ("up", ("b", "b", "a")))
        self.assertEqual(self.presses((("go", 10), ("in", 20), ("up", 99)), some), 10 + 40 + 297)

    def test_a_key_counts_once_whatever_it_is(self):
        some = (("go", ("c-m-s-enter", "esc")), ("in", ("down",)))
        self.assertEqual(self.presses((("go", 3), ("in", 4)), some), 10)

    def test_the_order_does_not_count(self):
        some = (("in", ("b", "a")), ("go", ("a",)))
        self.assertEqual(self.presses((("go", 10), ("in", 20)), some), 50)

    def test_rows_that_are_not_the_best(self):
        some = (("go", ("a", "a", "a")), ("in", ("b",)))
        self.assertEqual(self.presses((("go", 50), ("in", 1)), some), 151)

    def test_no_deeds(self):
        self.assertEqual(self.presses((), ()), 0)


if __name__ == "__main__":
    unittest.main()
