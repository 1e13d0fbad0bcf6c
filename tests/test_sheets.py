"""[7.1]: keys that are free, and sheets of what holds in a room."""

import random
import unittest

from chance import drawn_pairs
from keydeeds.holding import rows
from keydeeds.sheets import free, sheet
from samples import HOUSE, AskingTests

# In this house nook lies in attic, attic in hall, and yard beside them.
ALL = tuple("0123456789abcdefghijklmnopqrstuvwxyz")


def hall(*told):
    """The binds of these pairs of a text of keys and a deed in the hall."""
    return tuple(("hall", tuple(text.split(" ")), deed) for text, deed in told)


# Each entry of a sheet of these is six signs wide.
FIVE = hall(("a", "one"), ("b", "two"), ("c", "six"), ("d", "ten"), ("e", "hop"))


class FreeTests(AskingTests):
    def free(self, binds, room="hall", house=HOUSE):
        return self.ask(free, house, binds, room)

    def assert_taken(self, binds, taken, room="hall"):
        self.assertEqual(self.free(binds, room), tuple(key for key in ALL if key not in taken))

    def test_no_rows(self):
        self.assertEqual(self.free(()), ALL)
        self.assertEqual(self.free(hall(("a", None))), ALL)

    def test_rows_that_begin_with_a_letter(self):
        self.assert_taken(hall(("a", "open")), "a")
        self.assert_taken(hall(("z b", "open"), ("m n o", "go"), ("m", "in")), "zm")

    def test_rows_that_begin_with_a_figure(self):
        self.assert_taken(hall(("0", "open"), ("9 1", "go")), "09")

    def test_rows_that_begin_with_a_key_with_helpers(self):
        self.assert_taken(hall(("c-a", "open"), ("c-m-s-b c", "go"), ("s-0", "in")), "")

    def test_rows_that_begin_with_a_word(self):
        self.assert_taken(hall(("enter", "open"), ("up a", "go"), ("tab", "in"), ("esc", "in"), ("down", "in")), "")

    def test_only_the_first_key_counts(self):
        self.assert_taken(hall(("a b c", "open"), ("c-x d 5", "go")), "a")

    def test_what_is_taken_away_is_free(self):
        binds = hall(("a", "open"), ("b c", "go")) + (("attic", ("a",), None), ("attic", ("d", "e"), None))
        self.assert_taken(binds, "ab")
        self.assert_taken(binds, "b", "attic")
        self.assert_taken(binds, "b", "nook")

    def test_each_room_s_own_rows_count(self):
        binds = hall(("a", "open")) + (("yard", ("b",), "dig"), ("nook", ("c",), "in"))
        self.assert_taken(binds, "a")
        self.assert_taken(binds, "ac", "nook")
        self.assert_taken(binds, "b", "yard")

    def test_none_is_free(self):
        self.assertEqual(self.free(tuple(("hall", (key,), "go") for key in ALL)), ())

    def test_they_rise(self):
        for binds in ((), hall(("5", "go"), ("m", "go"))):
            told = self.free(binds)
            self.assertEqual(list(told), sorted(told))

    def test_drawn_maps(self):
        for house, binds in drawn_pairs(60, ("a", "b", "z", "0", "c-a", "up")):
            for room, outer in house[0]:
                firsts = {keys[0] for keys, deed in rows(house, binds, room)}
                self.assertEqual(self.free(binds, room, house), tuple(key for key in ALL if key not in firsts))


def laid_out(told, width):
    """The second opinion: columns are tried from the most to one, then filled one by one."""
    if not told:
        return ()
    texts = [" ".join(keys) for keys, deed in told]
    head = max(map(len, texts))
    entries = [text + " " * (head - len(text)) + "  " + deed for text, (keys, deed) in zip(texts, told)]
    long = max(map(len, entries))
    columns = len(told)
    while columns > 1 and columns * long + 2 * (columns - 1) > width:
        columns -= 1
    high = 1
    while high * columns < len(entries):
        high += 1
    lines = [""] * high
    for at, entry in enumerate(entries):
        gap = "  " if at >= high else ""
        lines[at % high] += gap + entry + " " * (long - len(entry))
    return tuple(line.rstrip(" ") for line in lines)


class SheetTests(AskingTests):
    def sheet(self, binds, width, room="hall", house=HOUSE):
        return self.ask(sheet, house, binds, room, width)

    def test_no_rows(self):
        for width in (1, 10, 1000):
            self.assertEqual(self.sheet((), width), ())
            self.assertEqual(self.sheet(hall(("a", None)), width), ())

    def test_one_row(self):
        for width in (1, 6, 7, 100):
            self.assertEqual(self.sheet(hall(("a", "open")), width), ("a  open",))
            self.assertEqual(self.sheet(hall(("c-x c-s enter", "save")), width), ("c-x c-s enter  save",))

    def test_rows_of_several_lengths(self):
        binds = hall(("a", "open"), ("c-x c-s", "save"), ("a b c", "go"), ("enter", "leave"))
        expected = ("a        open", "a b c    go", "c-x c-s  save", "enter    leave")
        self.assertEqual(self.sheet(binds, 1), expected)
        expected = ("a        open   c-x c-s  save", "a b c    go     enter    leave")
        self.assertEqual(self.sheet(binds, 30), expected)

    def test_no_blanks_at_the_ends_of_texts(self):
        binds = hall(("a", "x"), ("b", "leave"), ("c", "y"))
        self.assertEqual(self.sheet(binds, 1), ("a  x", "b  leave", "c  y"))
        self.assertEqual(self.sheet(binds, 18), ("a  x      c  y", "b  leave"))
        self.assertEqual(self.sheet(binds, 100), ("a  x      b  leave  c  y",))

    def test_just_as_wide_as_two_entries_and_two_blanks(self):
        expected = ("a  one  d  ten", "b  two  e  hop", "c  six")
        self.assertEqual(self.sheet(FIVE, 14), expected)
        self.assertEqual(self.sheet(FIVE, 15), expected)

    def test_one_less(self):
        expected = ("a  one", "b  two", "c  six", "d  ten", "e  hop")
        for width in (13, 7, 6, 5, 2, 1):
            self.assertEqual(self.sheet(FIVE, width), expected)

    def test_the_width_of_all_entries_counts_though_blanks_go(self):
        # The second entry of a line would fit without the blanks behind it.
        binds = hall(("a", "leave"), ("b", "x"))
        self.assertEqual(self.sheet(binds, 17), ("a  leave", "b  x"))
        self.assertEqual(self.sheet(binds, 18), ("a  leave  b  x",))

    def test_three_columns(self):
        expected = ("a  one  c  six  e  hop", "b  two  d  ten")
        for width in (22, 29):
            self.assertEqual(self.sheet(FIVE, width), expected)

    def test_the_last_columns_may_be_empty(self):
        # Four would fit, but with two lines three hold all.
        expected = ("a  one  c  six  e  hop", "b  two  d  ten")
        for width in (30, 37):
            self.assertEqual(self.sheet(FIVE, width), expected)

    def test_very_wide(self):
        for width in (38, 39, 1000, 10 ** 12):
            self.assertEqual(self.sheet(FIVE, width), ("a  one  b  two  c  six  d  ten  e  hop",))

    def test_entries_stand_in_the_order_of_rows(self):
        self.assertEqual(self.sheet(FIVE[::-1], 14), ("a  one  d  ten", "b  two  e  hop", "c  six"))

    def test_the_room_s_rows_count(self):
        binds = FIVE + (("attic", ("a",), None), ("attic", ("b",), "shut"), ("yard", ("z",), "dig"))
        self.assertEqual(self.sheet(binds, 1, "attic"), ("b  shut", "c  six", "d  ten", "e  hop"))
        self.assertEqual(self.sheet(binds, 1, "yard"), ("z  dig",))

    def test_more_than_the_most(self):
        binds = tuple(("hall", (key,), "wandering") for key in "abcdefghijklmnopqrst") + hall(("a b c d", "go"))
        for width in (-5, 0, 1, 50):
            self.assertEqual(self.sheet(binds, width), laid_out(rows(HOUSE, binds, "hall"), width))

    def test_drawn_maps(self):
        draw = random.Random(41)
        heights = set()
        for house, binds in drawn_pairs(200):
            room = draw.choice(house[0])[0]
            told = rows(house, binds, room)
            for width in (1, draw.randint(2, 40), draw.randint(20, 90), 200, 500):
                lines = self.sheet(binds, width, room, house)
                self.assertEqual(lines, laid_out(told, width))
                heights.add(len(lines))
        self.assertLessEqual(set(range(10)), heights)


if __name__ == "__main__":
    unittest.main()
