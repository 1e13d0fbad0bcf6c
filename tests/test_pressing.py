"""[0.2] (c) and [3.1] to [3.3]: keys pressed, and what is told of them."""

import itertools
import random
import unittest

from chance import drawn_pairs, drawn_presses
from keydeeds.pressing import begin, passed, pressed, run
from samples import AskingTests

HOUSE = (
    (("hall", None), ("attic", "hall"), ("yard", None)),
    (("climb", "attic"), ("leave", "yard"), ("return", "hall"), ("stay", "hall")),
)
MAP = (
    ("hall", ("a",), "open"),
    ("hall", ("b",), "shut"),
    ("hall", ("b", "c"), "bolt"),
    ("hall", ("d", "e"), "dust"),
    ("hall", ("x", "y", "z"), "paint"),
    ("hall", ("u",), "climb"),
    ("hall", ("l",), "leave"),
    ("hall", ("l", "l"), "look"),
    ("attic", ("a",), None),
    ("attic", ("b", "c"), None),
    ("yard", ("a",), "dig"),
    ("yard", ("r",), "return"),
)
WAIT = 10


def at_hall(*keys, since=0):
    return ("hall", keys, since)


def deed(name):
    return ("deed", name)


def lost(*keys):
    return ("lost", keys)


class PressingTests(AskingTests):
    def press(self, state, key, time, binds=MAP):
        return self.ask(pressed, HOUSE, binds, WAIT, state, key, time)

    def passing(self, state, time, binds=MAP):
        return self.ask(passed, HOUSE, binds, WAIT, state, time)


class BeginTests(AskingTests):
    def test_the_first_room_and_no_keys(self):
        self.assertEqual(self.ask(begin, HOUSE), ("hall", (), 0))
        self.assertEqual(self.ask(begin, ((("z", None), ("a", None)), (("go", "a"),))), ("z", (), 0))
        for house, binds in drawn_pairs(20):
            self.assertEqual(self.ask(begin, house), (house[0][0][0], (), 0))


class PassedTests(PressingTests):
    def test_nothing_waits(self):
        for time in (0, 1, WAIT, 1000):
            self.assertEqual(self.passing(at_hall(), time), (at_hall(), ()))

    def test_too_early(self):
        state = at_hall("b", since=7)
        for time in (7, 8, 7 + WAIT - 1):
            self.assertEqual(self.passing(state, time), (state, ()))

    def test_just_in_time_and_later(self):
        for time in (7 + WAIT, 7 + WAIT + 1, 1000):
            self.assertEqual(self.passing(at_hall("b", since=7), time), (at_hall(), (deed("shut"),)))

    def test_keys_that_are_no_row_are_lost(self):
        self.assertEqual(self.passing(at_hall("d", since=7), 17), (at_hall(), (lost("d"),)))
        self.assertEqual(self.passing(at_hall("x", "y", since=7), 17), (at_hall(), (lost("x", "y"),)))

    def test_keys_that_wait_since_nought(self):
        self.assertEqual(self.passing(at_hall("b"), WAIT - 1), (at_hall("b"), ()))
        self.assertEqual(self.passing(at_hall("b"), WAIT), (at_hall(), (deed("shut"),)))

    def test_the_deed_leads_into_another_room(self):
        self.assertEqual(self.passing(at_hall("l", since=1), 11), (("yard", (), 0), (deed("leave"),)))

    def test_a_row_that_is_taken_away_is_lost(self):
        state = ("attic", ("b", "c"), 3)
        self.assertEqual(self.passing(state, 13), (("attic", (), 0), (lost("b", "c"),)))

    def test_the_room_s_own_rows_count(self):
        self.assertEqual(self.passing(("yard", ("b",), 0), 10), (("yard", (), 0), (lost("b"),)))
        self.assertEqual(self.passing(("yard", ("a",), 0), 10), (("yard", (), 0), (deed("dig"),)))
        self.assertEqual(self.passing(("attic", ("b",), 0), 10), (("attic", (), 0), (deed("shut"),)))

    def test_every_wait(self):
        for wait in (1, 2, 99, 100, 101):
            state = at_hall("b", since=5)
            self.assertEqual(self.ask(passed, HOUSE, MAP, wait, state, 5 + wait - 1), (state, ()))
            self.assertEqual(self.ask(passed, HOUSE, MAP, wait, state, 5 + wait), (at_hall(), (deed("shut"),)))


class PressedTests(PressingTests):
    def test_a_key_that_is_a_row_alone(self):
        self.assertEqual(self.press(at_hall(), "a", 3), (at_hall(), (deed("open"),)))

    def test_a_key_that_begins_a_longer_row(self):
        self.assertEqual(self.press(at_hall(), "d", 3), (at_hall("d", since=3), ()))

    def test_a_key_that_is_both(self):
        self.assertEqual(self.press(at_hall(), "b", 3), (at_hall("b", since=3), ()))

    def test_a_key_that_is_lost_alone(self):
        for key in ("q", "c", "e", "c-a", "z"):
            self.assertEqual(self.press(at_hall(), key, 3), (at_hall(), (lost(key),)))
        self.assertEqual(self.press(at_hall(), "a", 3, ()), (at_hall(), (lost("a"),)))

    def test_a_row_of_two(self):
        self.assertEqual(self.press(at_hall("d", since=3), "e", 4), (at_hall(), (deed("dust"),)))
        self.assertEqual(self.press(at_hall("b", since=3), "c", 4), (at_hall(), (deed("bolt"),)))

    def test_a_row_of_three(self):
        state, told = self.press(at_hall(), "x", 1)
        self.assertEqual((state, told), (at_hall("x", since=1), ()))
        state, told = self.press(state, "y", 10)
        self.assertEqual((state, told), (at_hall("x", "y", since=10), ()))
        self.assertEqual(self.press(state, "z", 19), (at_hall(), (deed("paint"),)))

    def test_the_wait_counts_from_the_last_key(self):
        state = at_hall("x", "y", since=10)
        self.assertEqual(self.press(state, "z", 19), (at_hall(), (deed("paint"),)))
        self.assertEqual(self.press(state, "z", 20), (at_hall(), (lost("x", "y"), lost("z"))))

    def test_lost_behind_keys_that_wait(self):
        self.assertEqual(self.press(at_hall("d", since=3), "q", 4), (at_hall(), (lost("d"), lost("q"))))
        self.assertEqual(self.press(at_hall("x", "y", since=3), "q", 4), (at_hall(), (lost("x", "y"), lost("q"))))
        self.assertEqual(self.press(at_hall("b", since=3), "q", 4), (at_hall(), (deed("shut"), lost("q"))))

    def test_a_row_behind_keys_that_are_lost(self):
        self.assertEqual(self.press(at_hall("d", since=3), "a", 4), (at_hall(), (lost("d"), deed("open"))))

    def test_the_key_waits_anew_when_those_that_waited_are_settled(self):
        self.assertEqual(self.press(at_hall("d", since=3), "x", 4), (at_hall("x", since=4), (lost("d"),)))
        self.assertEqual(self.press(at_hall("b", since=3), "d", 4), (at_hall("d", since=4), (deed("shut"),)))

    def test_the_same_key_again(self):
        self.assertEqual(self.press(at_hall("b", since=3), "b", 4), (at_hall("b", since=4), (deed("shut"),)))
        self.assertEqual(self.press(at_hall("d", since=3), "d", 4), (at_hall("d", since=4), (lost("d"),)))
        self.assertEqual(self.press(at_hall("x", "y", since=3), "x", 4), (at_hall("x", since=4), (lost("x", "y"),)))
        self.assertEqual(self.press(at_hall("l", since=3), "l", 4), (at_hall(), (deed("look"),)))

    def test_one_less_than_since_and_wait(self):
        self.assertEqual(self.press(at_hall("b", since=3), "c", 12), (at_hall(), (deed("bolt"),)))

    def test_just_since_and_wait_and_more(self):
        for time in (13, 14, 500):
            self.assertEqual(self.press(at_hall("b", since=3), "c", time), (at_hall(), (deed("shut"), lost("c"))))
            self.assertEqual(
                self.press(at_hall("b", since=3), "b", time), (at_hall("b", since=time), (deed("shut"),))
            )

    def test_at_the_same_time(self):
        self.assertEqual(self.press(at_hall("b", since=3), "c", 3), (at_hall(), (deed("bolt"),)))
        self.assertEqual(self.press(at_hall(), "b", 0), (at_hall("b", since=0), ()))
        self.assertEqual(self.press(at_hall("b", since=0), "c", 0), (at_hall(), (deed("bolt"),)))

    def test_a_deed_that_leads_away_at_once(self):
        self.assertEqual(self.press(at_hall(), "u", 3), (("attic", (), 0), (deed("climb"),)))
        self.assertEqual(self.press(("yard", (), 0), "r", 3), (at_hall(), (deed("return"),)))

    def test_a_deed_that_leads_away_when_it_settles(self):
        # The key is then pressed in the room that was led into.
        yard = ("yard", (), 0)
        self.assertEqual(self.press(at_hall("l", since=3), "a", 4), (yard, (deed("leave"), deed("dig"))))
        self.assertEqual(self.press(at_hall("l", since=3), "a", 99), (yard, (deed("leave"), deed("dig"))))
        self.assertEqual(self.press(at_hall("l", since=3), "b", 4), (yard, (deed("leave"), lost("b"))))
        self.assertEqual(self.press(at_hall("l", since=3), "l", 13), (yard, (deed("leave"), lost("l"))))

    def test_there_and_back_at_one_press(self):
        self.assertEqual(self.press(at_hall("l", since=3), "r", 4), (at_hall(), (deed("leave"), deed("return"))))

    def test_a_room_that_is_led_into_has_other_rows(self):
        attic = ("attic", (), 0)
        self.assertEqual(self.press(attic, "a", 4), (attic, (lost("a"),)))
        self.assertEqual(self.press(attic, "b", 4), (attic, (deed("shut"),)))
        self.assertEqual(self.press(attic, "d", 4), (("attic", ("d",), 4), ()))
        self.assertEqual(self.press(("yard", (), 0), "a", 4), (("yard", (), 0), (deed("dig"),)))

    def test_a_deed_that_leads_where_one_is(self):
        binds = (("hall", ("a",), "stay"), ("attic", ("b",), "return"))
        self.assertEqual(self.press(at_hall(), "a", 4, binds), (at_hall(), (deed("stay"),)))
        self.assertEqual(self.press(("attic", (), 0), "b", 4, binds), (at_hall(), (deed("return"),)))

    def test_a_deed_that_leads_nowhere_keeps_the_inner_room(self):
        self.assertEqual(self.press(("attic", ("d",), 0), "e", 4), (("attic", (), 0), (deed("dust"),)))

    def test_a_longer_row_whose_deed_is_none_is_not_waited_for(self):
        binds = (("hall", ("a",), "open"), ("hall", ("a", "b"), None))
        self.assertEqual(self.press(at_hall(), "a", 4, binds), (at_hall(), (deed("open"),)))

    def test_rows_longer_than_three(self):
        binds = (("hall", ("a", "b", "c", "d"), "wander"),)
        state = at_hall()
        for time, key in enumerate("abc"):
            state, told = self.press(state, key, time, binds)
            self.assertEqual(told, ())
        self.assertEqual(self.press(state, "d", 3, binds), (at_hall(), (deed("wander"),)))


def model(house, binds, wait, presses):
    """What is told of all presses, found from the whole tuple of them at once.

    From each key on, as many of those behind it belong together as come in
    time and are, with it, a row or the beginning of one.
    """
    outers, leads = dict(house[0]), dict(house[1])

    def row_deeds(room):
        deeds = row_deeds(outers[room]) if outers[room] is not None else {}
        return {**deeds, **{keys: name for place, keys, name in binds if place == room}}

    room, at, told = house[0][0][0], 0, []
    while at < len(presses):
        deeds = {keys: name for keys, name in row_deeds(room).items() if name is not None}
        some = {keys[:many] for keys in deeds for many in range(1, len(keys) + 1)}
        longer = {keys[:many] for keys in deeds for many in range(1, len(keys))}
        end = at + 1
        while end < len(presses) and presses[end][1] - presses[end - 1][1] < wait:
            keys = tuple(key for key, time in presses[at:end + 1])
            if keys[:-1] not in longer or keys not in some:
                break
            end += 1
        keys = tuple(key for key, time in presses[at:end])
        told.append(("deed", deeds[keys]) if keys in deeds else ("lost", keys))
        room = leads.get(deeds.get(keys), room)
        at = end
    return tuple(told)


def all_presses(keys, gaps, most):
    """All tuples of at most so many presses of these keys, so much time between each two."""
    for many in range(most + 1):
        for chosen in itertools.product(itertools.product(keys, gaps), repeat=many):
            times = itertools.accumulate(gap for key, gap in chosen)
            yield tuple((key, time) for (key, gap), time in zip(chosen, times))


class RunTests(AskingTests):
    def run_of(self, presses, binds=MAP, wait=WAIT, house=HOUSE):
        return self.ask(run, house, binds, wait, presses)

    def one_by_one(self, house, binds, wait, presses):
        """What is told if each key is handed over by itself, and time is asked for often."""
        state, told = begin(house), []
        for key, time in presses:
            for moment in range(max(state[2], time - 3), time + 1):
                state, more = passed(house, binds, wait, state, moment)
                told.extend(more)
            state, more = pressed(house, binds, wait, state, key, time)
            told.extend(more)
        state, more = passed(house, binds, wait, state, state[2] + 10 * wait)
        return tuple(told) + more

    def test_no_presses(self):
        self.assertEqual(self.run_of(()), ())
        self.assertEqual(self.run_of((), ()), ())

    def test_what_settles_at_last(self):
        self.assertEqual(self.run_of((("b", 4),)), (deed("shut"),))
        self.assertEqual(self.run_of((("d", 4),)), (lost("d"),))
        self.assertEqual(self.run_of((("x", 4), ("y", 4))), (lost("x", "y"),))
        self.assertEqual(self.run_of((("d", 0),)), (lost("d"),))

    def test_all_that_is_told_in_order(self):
        presses = (("a", 0), ("b", 1), ("c", 2), ("b", 3), ("q", 4), ("b", 5), ("d", 15), ("l", 16))
        expected = (deed("open"), deed("bolt"), deed("shut"), lost("q"), deed("shut"), lost("d"), deed("leave"))
        self.assertEqual(self.run_of(presses), expected)

    def test_rooms_that_are_led_into(self):
        presses = (("u", 0), ("a", 1), ("b", 2), ("l", 3), ("a", 4), ("r", 5), ("a", 6), ("l", 7), ("a", 17))
        expected = (
            deed("climb"), lost("a"), deed("shut"), deed("leave"), deed("dig"), deed("return"), deed("open"),
            deed("leave"), deed("dig"),
        )
        self.assertEqual(self.run_of(presses), expected)

    def test_an_empty_map_loses_each_key_alone(self):
        self.assertEqual(self.run_of((("a", 0), ("b", 0)), ()), (lost("a"), lost("b")))

    def test_all_presses_against_the_model(self):
        maps = (
            (("hall", ("a",), "open"), ("hall", ("a", "b"), "climb"), ("attic", ("b",), "leave"), ("yard", ("a", "a"), "go")),
            (("hall", ("a", "b", "a"), "leave"), ("hall", ("a",), "climb"), ("attic", ("a",), None), ("yard", ("b",), "dig")),
            (("hall", ("a", "a"), "leave"), ("hall", ("b", "b"), "look"), ("yard", ("a",), "return")),
        )
        for binds in maps:
            for presses in all_presses("ab", (2, 3), 5):
                expected = model(HOUSE, binds, 3, presses)
                self.assertEqual(run(HOUSE, binds, 3, presses), expected, (binds, presses))
                self.assertEqual(self.one_by_one(HOUSE, binds, 3, presses), expected, (binds, presses))

    def test_drawn_maps_against_the_model(self):
        draw = random.Random(13)
        for keys in (("a", "b"), ("a", "b", "c-a")):
            for house, binds in drawn_pairs(300, keys, seed=14):
                wait = draw.choice((1, 2, 7, 100))
                presses = drawn_presses(draw, keys, wait)
                expected = model(house, binds, wait, presses)
                self.assertEqual(self.run_of(presses, binds, wait, house), expected)
                self.assertEqual(self.one_by_one(house, binds, wait, presses), expected)

    def test_each_key_is_told_just_once(self):
        # Each row has a deed of its own here, so that the deed tells the keys.
        names = ["".join(pair) for pair in itertools.product("pqrst", repeat=2)]
        draw = random.Random(15)
        for house, drawn in drawn_pairs(200, ("a", "b"), seed=16):
            taken = [deed for deed, room in house[1]]
            binds, row_of = [], {}
            for number, (room, keys, name) in enumerate(drawn):
                if name is not None and name not in row_of:
                    new = name if name in taken else names[number]
                    row_of[new] = keys
                    binds.append((room, keys, new))
                else:
                    binds.append((room, keys, None))
            presses = drawn_presses(draw, ("a", "b", "c"), 4)
            keys = []
            for kind, what in self.run_of(presses, tuple(binds), 4, house):
                keys.extend(row_of[what] if kind == "deed" else what)
            self.assertEqual(keys, [key for key, time in presses])

    def test_waits_and_times_beyond_the_most(self):
        presses = (("b", 10 ** 12), ("c", 10 ** 12 + 999), ("b", 10 ** 13))
        self.assertEqual(self.run_of(presses, MAP, 1000), (deed("bolt"), deed("shut")))


if __name__ == "__main__":
    unittest.main()
