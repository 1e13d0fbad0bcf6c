"""[6.1] and [6.2]: maps laid over one another, thinned out, compared, keys exchanged."""

import itertools
import random
import unittest

from chance import drawn_map, drawn_pairs
from keydeeds.changing import changes, exchanged, over, without
from keydeeds.holding import rows
from keydeeds.things import is_map
from samples import HOUSE, MAP, AskingTests

A, B, AB = ("a",), ("b",), ("a", "b")
TWELVE = tuple(("hall", (key,), "go") for key in "abcdefghijkl")


class OverTests(AskingTests):
    def over(self, one, other):
        return self.ask(over, one, other)

    def test_empty_maps(self):
        self.assertEqual(self.over((), ()), ())
        self.assertEqual(self.over(MAP, ()), MAP)
        self.assertEqual(self.over((), MAP), MAP)

    def test_a_map_over_itself(self):
        self.assertEqual(self.over(MAP, MAP), MAP)
        self.assertEqual(self.over(MAP, MAP[::-1]), MAP)

    def test_the_same_room_and_keys_get_the_other_deed(self):
        one = (("hall", A, "open"), ("hall", B, "shut"))
        self.assertEqual(self.over(one, (("hall", B, "save"),)), (("hall", A, "open"), ("hall", B, "save")))
        self.assertEqual(self.over(one, (("hall", A, None),)), (("hall", A, None), ("hall", B, "shut")))

    def test_none_gets_the_other_deed(self):
        self.assertEqual(self.over((("hall", A, None),), (("hall", A, "open"),)), (("hall", A, "open"),))
        self.assertEqual(self.over((("hall", A, None),), (("hall", A, None),)), (("hall", A, None),))

    def test_the_same_room_or_the_same_keys_alone_are_others(self):
        one = (("hall", A, "open"),)
        other = (("attic", A, "go"), ("hall", AB, "in"), ("hall", B, None))
        self.assertEqual(self.over(one, other), one + other)

    def test_what_one_has_not_stands_behind_in_order(self):
        one = (("yard", B, "dig"), ("hall", A, "open"))
        other = (("hall", AB, "save"), ("yard", B, "chop"), ("attic", A, None))
        expected = (("yard", B, "chop"), ("hall", A, "open"), ("hall", AB, "save"), ("attic", A, None))
        self.assertEqual(self.over(one, other), expected)

    def test_more_than_twelve(self):
        other = tuple(("yard", (key,), "dig") for key in "abcdefghijkl")
        self.assertEqual(self.over(TWELVE, other), TWELVE + other)
        self.assertEqual(self.over(TWELVE + other, other + TWELVE), TWELVE + other)

    def test_each_room_s_rows_are_the_other_s_where_it_binds_them(self):
        draw = random.Random(11)
        for house, one in drawn_pairs(100):
            other = drawn_map(draw, house)
            laid = self.over(one, other)
            told = {bind[:2]: bind[2] for bind in laid}
            self.assertEqual(len(told), len(laid))
            self.assertEqual(told, {**{bind[:2]: bind[2] for bind in one}, **{bind[:2]: bind[2] for bind in other}})
            self.assertEqual([bind[:2] for bind in laid[:len(one)]], [bind[:2] for bind in one])
            places = [bind[:2] for bind in other]
            self.assertEqual(sorted(laid[len(one):], key=lambda bind: places.index(bind[:2])), list(laid[len(one):]))


class WithoutTests(AskingTests):
    def without(self, binds, numbers):
        return self.ask(without, binds, numbers)

    def test_no_numbers(self):
        self.assertEqual(self.without(MAP, ()), MAP)
        self.assertEqual(self.without((), ()), ())

    def test_all_numbers(self):
        self.assertEqual(self.without(MAP, (0, 1, 2, 3)), ())
        self.assertEqual(self.without(TWELVE, tuple(range(12))), ())

    def test_every_choice_of_numbers_in_any_order(self):
        for many in range(5):
            for numbers in itertools.permutations(range(4), many):
                expected = tuple(MAP[at] for at in range(4) if at not in numbers)
                self.assertEqual(self.without(MAP, numbers), expected)

    def test_numbers_that_are_no_bind_s(self):
        for numbers in ((4,), (-1,), (-4,), (99, -2), (1000000000000,)):
            self.assertEqual(self.without(MAP, numbers), MAP)
        self.assertEqual(self.without((), (0, 1)), ())
        self.assertEqual(self.without(MAP, (4, 0, -1)), MAP[1:])

    def test_a_number_twice(self):
        self.assertEqual(self.without(MAP, (1, 1)), (MAP[0],) + MAP[2:])


class ChangesTests(AskingTests):
    def changes(self, old, new, house=HOUSE):
        return self.ask(changes, house, old, new)

    def test_a_map_and_itself(self):
        for binds in ((), MAP, MAP[::-1], TWELVE):
            self.assertEqual(self.changes(binds, binds), ())
        self.assertEqual(self.changes(MAP, MAP[::-1]), ())

    def test_a_row_in_the_new_one_alone(self):
        self.assertEqual(self.changes((), (("yard", A, "dig"),)), (("yard", A, None, "dig"),))

    def test_a_row_in_the_old_one_alone(self):
        self.assertEqual(self.changes((("yard", A, "dig"),), ()), (("yard", A, "dig", None),))

    def test_another_deed(self):
        told = self.changes((("yard", A, "dig"), ("yard", B, "go")), (("yard", B, "go"), ("yard", A, "chop")))
        self.assertEqual(told, (("yard", A, "dig", "chop"),))

    def test_rooms_that_lie_in_the_changed_one(self):
        told = self.changes((("hall", A, "open"),), (("hall", A, "shut"),))
        self.assertEqual(told, tuple((room, A, "open", "shut") for room in ("attic", "hall", "nook")))

    def test_a_bind_further_in_hides_the_change(self):
        inner = ("attic", A, "look")
        told = self.changes((("hall", A, "open"), inner), (("hall", A, "shut"), inner))
        self.assertEqual(told, (("hall", A, "open", "shut"),))

    def test_a_bind_with_none_hides_the_change(self):
        inner = ("attic", A, None)
        told = self.changes((inner,), (("hall", A, "shut"), inner))
        self.assertEqual(told, (("hall", A, None, "shut"),))

    def test_a_bind_with_none_makes_a_change(self):
        outer = ("hall", A, "open")
        told = self.changes((outer,), (outer, ("attic", A, None)))
        self.assertEqual(told, (("attic", A, "open", None), ("nook", A, "open", None)))

    def test_a_bind_with_none_that_takes_nothing_away_is_no_change(self):
        self.assertEqual(self.changes((), (("hall", A, None),)), ())
        self.assertEqual(self.changes((("hall", A, None),), (("attic", A, None),)), ())

    def test_the_same_deed_from_another_room_is_no_change(self):
        told = self.changes((("hall", A, "open"), ("attic", A, "open")), (("hall", A, "open"),))
        self.assertEqual(told, ())

    def test_they_rise(self):
        old = (("yard", B, "z"), ("hall", B, "open"), ("nook", AB, "go"))
        new = (("yard", A, "a"), ("hall", A, "open"), ("hall", AB, "in"), ("nook", B, "up"))
        told = self.changes(old, new)
        expected = (
            ("attic", A, None, "open"), ("attic", AB, None, "in"), ("attic", B, "open", None),
            ("hall", A, None, "open"), ("hall", AB, None, "in"), ("hall", B, "open", None),
            ("nook", A, None, "open"), ("nook", AB, "go", "in"), ("nook", B, "open", "up"),
            ("yard", A, None, "a"), ("yard", B, "z", None),
        )
        self.assertEqual(told, expected)

    def test_drawn_maps(self):
        draw = random.Random(12)
        for house, old in drawn_pairs(100):
            new = drawn_map(draw, house)
            expected = []
            for room in sorted(room for room, outer in house[0]):
                both = [dict(rows(house, binds, room)) for binds in (old, new)]
                for keys in sorted(set(both[0]) | set(both[1])):
                    pair = tuple(deeds.get(keys) for deeds in both)
                    if pair[0] != pair[1]:
                        expected.append((room, keys) + pair)
            self.assertEqual(self.changes(old, new, house), tuple(expected))
            back = tuple((room, keys, before, now) for room, keys, now, before in expected)
            self.assertEqual(self.changes(new, old, house), back)

    def test_more_than_twelve_binds(self):
        many = TWELVE + (("yard", A, "dig"), ("yard", ("a", "b", "c", "d"), "wander"))
        told = self.changes(TWELVE, many)
        self.assertEqual(told, (("yard", A, None, "dig"), ("yard", ("a", "b", "c", "d"), None, "wander")))


class ExchangedTests(AskingTests):
    def exchanged(self, binds, one, other):
        return self.ask(exchanged, binds, one, other)

    def test_two_keys_change_places(self):
        binds = (("hall", ("a", "b", "a"), "go"), ("yard", A, None), ("attic", B, "in"), ("hall", ("c", "a"), "up"))
        expected = (("hall", ("b", "a", "b"), "go"), ("yard", B, None), ("attic", A, "in"), ("hall", ("c", "b"), "up"))
        self.assertEqual(self.exchanged(binds, "a", "b"), expected)
        self.assertEqual(self.exchanged(binds, "b", "a"), expected)

    def test_one_of_them_is_not_there(self):
        self.assertEqual(self.exchanged((("hall", AB, "go"),), "a", "x"), (("hall", ("x", "b"), "go"),))
        self.assertEqual(self.exchanged((("hall", AB, "go"),), "x", "a"), (("hall", ("x", "b"), "go"),))

    def test_neither_is_there(self):
        self.assertEqual(self.exchanged(MAP, "x", "y"), MAP)
        self.assertEqual(self.exchanged((), "x", "y"), ())

    def test_a_key_and_itself(self):
        for key in ("a", "c-x", "x"):
            self.assertEqual(self.exchanged(MAP, key, key), MAP)

    def test_a_key_with_helpers_is_another_key(self):
        binds = (("hall", ("c-a", "a", "m-a"), "go"),)
        self.assertEqual(self.exchanged(binds, "a", "b"), (("hall", ("c-a", "b", "m-a"), "go"),))
        self.assertEqual(self.exchanged(binds, "c-a", "a"), (("hall", ("a", "c-a", "m-a"), "go"),))

    def test_rooms_and_deeds_stay(self):
        binds = (("a", A, "a"), ("b", B, "b"), ("up", ("up",), "up"))
        self.assertEqual(self.exchanged(binds, "a", "b"), (("a", B, "a"), ("b", A, "b"), ("up", ("up",), "up")))

    def test_twice_is_as_before(self):
        for house, binds in drawn_pairs(100):
            for one, other in (("a", "b"), ("c-a", "x"), ("0", "enter"), ("a", "a")):
                once = self.exchanged(binds, one, other)
                self.assertIs(is_map(house, once), True)
                self.assertEqual(self.exchanged(once, one, other), binds)


if __name__ == "__main__":
    unittest.main()
