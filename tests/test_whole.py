"""[0.1], [0.2] (d) and [0.3]: what is promised over the whole program."""

import random
import unittest

from chance import drawn_map, drawn_pairs, drawn_presses
from keydeeds.changing import changes, without
from keydeeds.clashing import clashes, cleared, useless
from keydeeds.hinting import hints, steps_to
from keydeeds.holding import rows
from keydeeds.pressing import passed, pressed, run
from samples import AskingTests

WAIT = 6


def cleared_pairs(many, seed):
    """Drawn houses, each with a map that has no clashes."""
    found = []
    for house, drawn in drawn_pairs(many, ("a", "b", "c"), seed):
        binds = without(drawn, cleared(house, drawn))
        found.append((house, binds))
    return found


class WithoutClashesTests(AskingTests):
    def test_each_deed_is_told_with_the_last_key_of_its_row(self):
        for house, binds in cleared_pairs(100, 61):
            for room, outer in house[0]:
                for keys, deed in rows(house, binds, room):
                    state = (room, (), 0)
                    for time, key in enumerate(keys[:-1]):
                        state, told = self.ask(pressed, house, binds, WAIT, state, key, time)
                        self.assertEqual(told, ())
                    state, told = self.ask(pressed, house, binds, WAIT, state, keys[-1], len(keys) - 1)
                    self.assertEqual(told, (("deed", deed),))

    def test_what_settles_is_lost(self):
        for house, binds in cleared_pairs(100, 62):
            for room, outer in house[0]:
                for keys, deed in rows(house, binds, room):
                    for many in range(1, len(keys)):
                        told = self.ask(passed, house, binds, WAIT, (room, keys[:many], 3), 3 + WAIT)
                        self.assertEqual(told, ((room, (), 0), (("lost", keys[:many]),)))

    def test_at_once_and_slowly_tell_the_same(self):
        draw = random.Random(63)
        for house, binds in cleared_pairs(150, 64):
            keys = [draw.choice("abcq") for _ in range(draw.randint(1, 12))]
            at_once = self.ask(run, house, binds, WAIT, tuple((key, 4) for key in keys))
            for gap in (1, WAIT - 1):
                slowly = tuple((key, 4 + at * gap) for at, key in enumerate(keys))
                self.assertEqual(self.ask(run, house, binds, WAIT, slowly), at_once)

    def test_where_binds_clash_a_deed_has_to_wait(self):
        seen = 0
        for house, binds in drawn_pairs(60, ("a", "b"), seed=65):
            for short, long in clashes(house, binds):
                keys, deed = binds[short][1:]
                rooms = [
                    room for room, outer in house[0]
                    if {(keys, deed), binds[long][1:]} <= set(rows(house, binds, room))
                ]
                self.assertNotEqual(rooms, [])
                state = (rooms[0], keys[:-1], 0)
                after, told = self.ask(pressed, house, binds, WAIT, state, keys[-1], 0)
                self.assertEqual((after, told), ((rooms[0], keys, 0), ()))
                self.assertEqual(self.ask(passed, house, binds, WAIT, after, WAIT)[1], (("deed", deed),))
                seen += 1
        self.assertGreater(seen, 50)


class Names:
    """Other names for the rooms and deeds of a house and its maps, which rise alike."""

    def __init__(self, house, *maps):
        rooms = [room for room, outer in house[0]]
        deeds = [deed for deed, room in house[1]] + [bind[2] for binds in maps for bind in binds]
        self.rooms = {None: None, **self.others(rooms, "k")}
        self.deeds = {None: None, **self.others([deed for deed in deeds if deed is not None], "m")}

    def others(self, names, sign):
        return {name: sign + "abcdefghijklmnopqrstuvwxyz"[at] for at, name in enumerate(sorted(set(names)))}

    def house(self, house):
        rooms, ways = house
        return (
            tuple((self.rooms[room], self.rooms[outer]) for room, outer in rooms),
            tuple((self.deeds[deed], self.rooms[room]) for deed, room in ways),
        )

    def binds(self, binds):
        return tuple((self.rooms[room], keys, self.deeds[deed]) for room, keys, deed in binds)

    def rows(self, told):
        return tuple((keys, self.deeds[deed]) for keys, deed in told)

    def what(self, told):
        """Other names in a thing such as ("deed", name), ("lost", keys) or ("on",)."""
        return (told[0], self.deeds[told[1]]) if told[0] in ("deed", "both") else told

    def changes(self, told):
        return tuple((self.rooms[room], keys, self.deeds[old], self.deeds[new]) for room, keys, old, new in told)


class OtherNamesTests(AskingTests):
    def pairs(self):
        """Drawn houses and maps, each with names and with the same under these names."""
        found = []
        for house, binds in drawn_pairs(100, ("a", "b", "c-a"), seed=66):
            names = Names(house, binds)
            found.append((names, (house, binds), (names.house(house), names.binds(binds))))
        return found

    def test_rows(self):
        for names, old, new in self.pairs():
            for room, outer in old[0][0]:
                told = self.ask(rows, *old, room)
                self.assertEqual(self.ask(rows, *new, names.rooms[room]), names.rows(told))

    def test_run(self):
        draw = random.Random(67)
        for names, old, new in self.pairs():
            presses = drawn_presses(draw, ("a", "b", "c-a", "q"), WAIT)
            told = self.ask(run, *old, WAIT, presses)
            self.assertEqual(self.ask(run, *new, WAIT, presses), tuple(names.what(some) for some in told))

    def test_clashes_and_useless(self):
        for names, old, new in self.pairs():
            self.assertEqual(self.ask(clashes, *new), self.ask(clashes, *old))
            self.assertEqual(self.ask(useless, *new), self.ask(useless, *old))

    def test_cleared_are_as_many(self):
        for names, old, new in self.pairs():
            self.assertEqual(len(self.ask(cleared, *new)), len(self.ask(cleared, *old)))

    def test_hints(self):
        for names, old, new in self.pairs():
            for room, outer in old[0][0]:
                for keys in ((), ("a",), ("b",), ("a", "b"), ("c-a", "a")):
                    told = self.ask(hints, *old, (room, keys, 2))
                    expected = tuple((key, names.what(what)) for key, what in told)
                    self.assertEqual(self.ask(hints, *new, (names.rooms[room], keys, 2)), expected)

    def test_steps_are_as_many(self):
        for names, old, new in self.pairs():
            for deed in sorted(deed for deed in names.deeds if deed is not None):
                told, other = self.ask(steps_to, *old, deed), self.ask(steps_to, *new, names.deeds[deed])
                self.assertEqual(other is None, told is None)
                self.assertEqual(len(other or ()), len(told or ()))

    def test_changes(self):
        draw = random.Random(68)
        for house, binds in drawn_pairs(100, ("a", "b", "c-a"), seed=69):
            other = drawn_map(draw, house, ("a", "b", "c-a"))
            names = Names(house, binds, other)
            told = self.ask(changes, house, binds, other)
            renamed = self.ask(changes, names.house(house), names.binds(binds), names.binds(other))
            self.assertEqual(renamed, names.changes(told))


if __name__ == "__main__":
    unittest.main()
