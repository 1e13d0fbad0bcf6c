"""[0.2] (g), [5.1] and [5.2]: what can be pressed next, and how a deed is come to."""

import itertools
import random
import unittest

from chance import DEEDS, drawn_pairs, drawn_presses
from keydeeds.hinting import hints, steps_to
from keydeeds.holding import rows
from keydeeds.pressing import begin, passed, pressed, run
from samples import AskingTests

HOUSE = (
    (("hall", None), ("attic", "hall"), ("yard", None), ("shed", "yard")),
    (("climb", "attic"), ("enter", "shed"), ("leave", "yard"), ("return", "hall")),
)
MAP = (
    ("hall", ("a",), "open"),
    ("hall", ("b",), "shut"),
    ("hall", ("b", "c"), "bolt"),
    ("hall", ("x", "y", "z"), "paint"),
    ("hall", ("x", "y"), "mix"),
    ("hall", ("x", "w", "w"), "wash"),
    ("hall", ("u",), "climb"),
    ("attic", ("a",), None),
    ("attic", ("b", "c"), None),
    ("attic", ("d", "l"), "leave"),
    ("yard", ("a",), "dig"),
    ("yard", ("r",), "return"),
)
WAIT = 10


def waiting_states(house, binds):
    """All states of the house in which no keys wait, or keys that begin a row."""
    found = []
    for room, outer in house[0]:
        beginnings = {keys[:many] for keys, deed in rows(house, binds, room) for many in range(1, len(keys))}
        found.append((room, (), 0))
        found.extend((room, keys, 5) for keys in sorted(beginnings))
    return found


def comes_of(house, binds, state, key):
    """What comes of the key as pressing tells it, or None if the keys do not go on with it."""
    room, waiting, since = state
    after, told = pressed(house, binds, WAIT, state, key, since + WAIT - 1)
    if after[1] == waiting + (key,):
        rest, later = passed(house, binds, WAIT, after, after[2] + WAIT)
        return ("both", later[0][1]) if later[0][0] == "deed" else ("on",)
    # What waited and does not go on is told by itself, ahead of the key.
    if len(told) == 1 and told[0][0] == "deed" and after[1] == ():
        return told[0]
    return None


class HintsTests(AskingTests):
    def hints(self, state, binds=MAP, house=HOUSE):
        return self.ask(hints, house, binds, state)

    def test_no_keys_wait(self):
        expected = (("a", ("deed", "open")), ("b", ("both", "shut")), ("u", ("deed", "climb")), ("x", ("on",)))
        self.assertEqual(self.hints(("hall", (), 0)), expected)

    def test_one_key_waits(self):
        self.assertEqual(self.hints(("hall", ("b",), 3)), (("c", ("deed", "bolt")),))
        self.assertEqual(self.hints(("hall", ("x",), 3)), (("w", ("on",)), ("y", ("both", "mix"))))

    def test_two_keys_wait(self):
        self.assertEqual(self.hints(("hall", ("x", "y"), 3)), (("z", ("deed", "paint")),))
        self.assertEqual(self.hints(("hall", ("x", "w"), 3)), (("w", ("deed", "wash")),))

    def test_a_room_with_other_rows(self):
        expected = (("b", ("deed", "shut")), ("d", ("on",)), ("u", ("deed", "climb")), ("x", ("on",)))
        self.assertEqual(self.hints(("attic", (), 0)), expected)
        self.assertEqual(self.hints(("attic", ("d",), 0)), (("l", ("deed", "leave")),))
        self.assertEqual(self.hints(("yard", (), 0)), (("a", ("deed", "dig")), ("r", ("deed", "return"))))
        self.assertEqual(self.hints(("shed", (), 0)), self.hints(("yard", (), 0)))

    def test_nothing_can_be_pressed(self):
        self.assertEqual(self.hints(("hall", (), 0), ()), ())
        self.assertEqual(self.hints(("hall", (), 0), (("hall", ("a",), None), ("yard", ("b",), "dig"))), ())
        self.assertEqual(self.hints(("hall", ("a",), 2)), ())
        self.assertEqual(self.hints(("hall", ("q",), 2)), ())
        self.assertEqual(self.hints(("attic", ("b",), 2)), ())
        self.assertEqual(self.hints(("hall", ("x", "y", "z"), 2)), ())

    def test_a_row_that_begins_with_other_keys_does_not_count(self):
        binds = (("hall", ("a", "b", "c"), "go"), ("hall", ("b", "b"), "in"), ("hall", ("c", "a", "b"), "up"))
        self.assertEqual(self.hints(("hall", ("a",), 2), binds), (("b", ("on",)),))
        self.assertEqual(self.hints(("hall", ("b",), 2), binds), (("b", ("deed", "in")),))
        self.assertEqual(self.hints(("hall", ("c", "b"), 2), binds), ())

    def test_a_longer_row_whose_deed_is_none(self):
        binds = (("hall", ("a",), "open"), ("hall", ("a", "b"), None), ("hall", ("b", "a"), None))
        self.assertEqual(self.hints(("hall", (), 0), binds), (("a", ("deed", "open")),))

    def test_a_row_taken_away_that_begins_a_longer_one(self):
        binds = (("hall", ("a",), "open"), ("attic", ("a",), None), ("hall", ("a", "b"), "in"))
        self.assertEqual(self.hints(("hall", (), 0), binds), (("a", ("both", "open")),))
        self.assertEqual(self.hints(("attic", (), 0), binds), (("a", ("on",)),))

    def test_a_key_of_several_longer_rows_is_told_once(self):
        binds = (("hall", ("a", "b"), "in"), ("hall", ("a", "c"), "go"), ("hall", ("a", "b", "c"), "up"))
        self.assertEqual(self.hints(("hall", (), 0), binds), (("a", ("on",)),))
        self.assertEqual(self.hints(("hall", ("a",), 0), binds), (("b", ("both", "in")), ("c", ("deed", "go"))))

    def test_pairs_rise(self):
        keys = ("tab", "b", "c-a", "0", "m-s-up", "a", "s-0", "enter", "9", "z")
        binds = tuple(("hall", (key,), "go") for key in keys)
        risen = ("0", "9", "a", "b", "c-a", "enter", "m-s-up", "s-0", "tab", "z")
        self.assertEqual(self.hints(("hall", (), 0), binds), tuple((key, ("deed", "go")) for key in risen))

    def test_the_time_does_not_count(self):
        for since in (0, 1, 10 ** 9):
            self.assertEqual(self.hints(("hall", ("b",), since)), (("c", ("deed", "bolt")),))

    def test_rows_longer_than_three(self):
        binds = (("hall", ("a", "b", "c", "d"), "wander"), ("hall", ("a", "b", "c"), "go"))
        self.assertEqual(self.hints(("hall", ("a", "b"), 2), binds), (("c", ("both", "go")),))
        self.assertEqual(self.hints(("hall", ("a", "b", "c"), 2), binds), (("d", ("deed", "wander")),))

    def test_what_is_hinted_is_what_comes_of_the_next_key(self):
        seen = set()
        for house, binds in drawn_pairs(40) + drawn_pairs(80, ("a", "b"), seed=31):
            keys = sorted({key for room, row, deed in binds for key in row} | {"q"})
            for state in waiting_states(house, binds):
                told = self.hints(state, binds, house)
                outcomes = [(key, comes_of(house, binds, state, key)) for key in keys]
                self.assertEqual(told, tuple(pair for pair in outcomes if pair[1] is not None))
                seen.update((len(state[1]), what[0]) for key, what in told)
        some = {(waiting, what) for waiting in (0, 1, 2) for what in ("deed", "on", "both")}
        self.assertEqual(seen, some - {(2, "on"), (2, "both")})


def taken(house, binds, steps):
    """What is told at each of the steps, taken as [5.2] says."""
    state, time, found = begin(house), 7, []
    for step in steps:
        if step == "wait":
            time += WAIT
            state, told = passed(house, binds, WAIT, state, time)
        else:
            state, told = pressed(house, binds, WAIT, state, step, time)
        found.append(told)
    return found


def after_step(house, binds, state, step):
    """The state and what is told when one more step is taken."""
    if step == "wait":
        return passed(house, binds, WAIT, state, state[2] + WAIT)
    return pressed(house, binds, WAIT, state, step, state[2])


def fewest(house, binds, deed, keys):
    """How many steps tell the deed, found by taking all steps there are; None if none do."""
    states, many = {begin(house)}, 1
    while True:
        found = {after_step(house, binds, state, step) for state in states for step in keys + ("wait",)}
        if any(("deed", deed) in told for after, told in found):
            return many
        wider = states | {after for after, told in found}
        if wider == states:
            return None
        states, many = wider, many + 1


class StepsTests(AskingTests):
    def steps(self, deed, binds=MAP, house=HOUSE):
        """The steps, which must tell the deed at the last one, and not before."""
        steps = self.ask(steps_to, house, binds, deed)
        if steps is not None:
            told = taken(house, binds, steps)
            self.assertEqual([("deed", deed) in some for some in told], [False] * (len(steps) - 1) + [True])
        return steps

    def test_a_row_of_one_two_and_three_keys_in_the_first_room(self):
        self.assertEqual(self.steps("open"), ("a",))
        self.assertEqual(self.steps("bolt"), ("b", "c"))
        self.assertEqual(self.steps("paint"), ("x", "y", "z"))
        self.assertEqual(self.steps("wash"), ("x", "w", "w"))

    def test_a_room_that_another_deed_leads_into(self):
        self.assertEqual(self.steps("leave"), ("u", "d", "l"))
        self.assertEqual(self.steps("dig"), ("u", "d", "l", "a"))
        self.assertEqual(self.steps("return"), ("u", "d", "l", "r"))

    def test_keys_that_settle_alone(self):
        binds = (("hall", ("b",), "shut"), ("hall", ("b", "b"), "bolt"))
        self.assertEqual(self.steps("shut", binds), ("b", "wait"))
        binds = (("hall", ("b", "c"), "shut"), ("hall", ("b", "c", "c"), "bolt"), ("hall", ("b", "c", "b"), "bar"))
        self.assertEqual(self.steps("shut", binds), ("b", "c", "wait"))

    def test_keys_that_settle_may_be_followed_by_another_key_instead(self):
        self.assertEqual(len(self.steps("shut")), 2)
        self.assertEqual(len(self.steps("mix")), 3)

    def test_a_deed_that_leads_away_when_it_settles(self):
        binds = (("hall", ("b",), "leave"), ("hall", ("b", "c"), "bolt"), ("yard", ("c",), "dig"))
        self.assertEqual(self.steps("dig", binds), ("b", "wait", "c"))
        # A key that does not go on with what waits settles it and is pressed in the yard.
        binds = (("hall", ("b",), "leave"), ("hall", ("b", "c"), "bolt"), ("yard", ("d",), "dig"))
        self.assertEqual(self.steps("dig", binds), ("b", "d"))

    def test_a_deed_behind_keys_that_are_lost(self):
        # Keys that are lost lead nowhere: the deed is come to without them.
        binds = (("hall", ("a", "a", "b"), "open"), ("hall", ("c",), "shut"))
        self.assertEqual(run(HOUSE, binds, WAIT, (("a", 0), ("a", 0), ("c", 0)))[-1], ("deed", "shut"))
        self.assertEqual(self.steps("shut", binds), ("c",))
        # In the attic a is lost; in the yard it is not.
        self.assertEqual(self.steps("dig")[-1], "a")
        binds = MAP[:6] + (("hall", ("u",), "climb"), ("attic", ("a",), None), ("attic", ("a", "a", "c"), "dust"))
        self.assertEqual(self.steps("dust", binds), ("u", "a", "a", "c"))

    def test_of_two_rows_the_shorter_way(self):
        binds = (("hall", ("a", "b", "c"), "go"), ("hall", ("d",), "leave"), ("yard", ("e",), "go"))
        self.assertEqual(self.steps("go", binds), ("d", "e"))
        binds = (("hall", ("a", "b"), "go"), ("hall", ("d",), "leave"), ("yard", ("e", "f"), "go"))
        self.assertEqual(self.steps("go", binds), ("a", "b"))

    def test_a_deed_that_nothing_leads_to(self):
        self.assertIs(self.steps("dig", (("yard", ("a",), "dig"),)), None)
        self.assertIs(self.steps("dig", (("shed", ("a",), "dig"), ("hall", ("b",), "leave"))), None)
        self.assertIs(self.steps("open", (("attic", ("a",), "open"), ("hall", ("b",), "go"))), None)

    def test_a_deed_that_is_taken_away_where_one_comes(self):
        house = ((("nook", None), ("attic", "nook")), (("climb", "attic"),))
        binds = (("nook", ("a",), "climb"), ("attic", ("b",), None), ("attic", ("c",), "open"))
        self.assertEqual(self.steps("open", binds, house), ("a", "c"))
        house = ((("nook", None), ("attic", "nook"), ("box", "attic")), (("climb", "attic"),))
        binds = (("nook", ("a",), "climb"), ("box", ("c",), "open"))
        self.assertIs(self.steps("open", binds, house), None)

    def test_a_deed_that_is_bound_nowhere(self):
        for binds in (MAP, ()):
            self.assertIs(self.steps("sing", binds), None)

    def test_ways_that_lead_round_and_round(self):
        binds = (
            ("hall", ("a",), "leave"), ("yard", ("a",), "return"), ("yard", ("b",), "enter"),
            ("shed", ("a",), "return"), ("shed", ("b", "b"), "dig"),
        )
        self.assertEqual(self.steps("dig", binds), ("a", "b", "b", "b"))
        self.assertIs(self.steps("sing", binds), None)

    def test_a_way_of_a_deed_that_is_told_nowhere(self):
        house = ((("hall", None), ("yard", None)), (("leave", "yard"),))
        self.assertIs(self.steps("leave", (("yard", ("a",), "leave"),), house), None)

    def test_the_deed_is_told_just_once(self):
        # The second key would tell it of the first one, which settles, and again.
        binds = (("hall", ("b",), "shut"), ("hall", ("b", "c"), "bolt"), ("hall", ("a",), "go"), ("hall", ("d",), "shut"))
        self.assertEqual(self.steps("shut", binds), ("d",))
        binds = (("hall", ("b",), "leave"), ("hall", ("b", "c"), "bolt"), ("yard", ("a",), "leave"))
        steps = self.steps("leave", binds)
        self.assertEqual(len(steps), 2)
        self.assertEqual(taken(HOUSE, binds, steps)[-1], (("deed", "leave"),))

    def test_more_than_the_most(self):
        letters = "abcdefghijklmnop"
        house = (tuple((letter, None) for letter in letters), tuple((letter, letter) for letter in letters))
        binds = tuple((one, (other, "x", "x", "y"), other) for one, other in zip(letters, letters[1:]))
        steps = self.steps("p", binds, house)
        self.assertEqual(len(steps), 60)
        self.assertEqual(steps[:8], ("b", "x", "x", "y", "c", "x", "x", "y"))

    def test_no_fewer_steps_do(self):
        seen = set()
        for house, binds in drawn_pairs(150, ("a", "b"), seed=32):
            for deed in DEEDS:
                steps = self.steps(deed, binds, house)
                many = None if steps is None else len(steps)
                self.assertEqual(many, fewest(house, binds, deed, ("a", "b", "q")))
                seen.add(many)
        self.assertLessEqual({None, 1, 2, 3, 4, 5}, seen)

    def test_nothing_is_lost_on_the_way(self):
        for house, binds in drawn_pairs(100, ("a", "b"), seed=35):
            for deed in DEEDS:
                for told in taken(house, binds, self.steps(deed, binds, house) or ()):
                    self.assertEqual([what for kind, what in told if kind == "lost"], [])

    def test_a_deed_without_steps_is_told_by_none(self):
        draw = random.Random(33)
        for house, binds in drawn_pairs(150, ("a", "b", "c"), seed=34):
            never = [deed for deed in DEEDS if self.steps(deed, binds, house) is None]
            for _ in range(20):
                told = run(house, binds, 4, drawn_presses(draw, ("a", "b", "c", "q"), 4))
                for kind, what in told:
                    self.assertFalse(kind == "deed" and what in never)


if __name__ == "__main__":
    unittest.main()
