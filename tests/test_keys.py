"""[0.4] and [1.1]: which things are keys."""

import copy
import itertools
import string
import unittest

from keydeeds.things import is_key
from samples import HOUSE, MAP, ODD_THINGS, deep_things

HELPERS = ("c-", "m-", "s-")
BARE = tuple(string.ascii_lowercase) + tuple(string.digits) + ("enter", "esc", "tab", "up", "down")


class KeyTests(unittest.TestCase):
    def yes(self, thing):
        self.assertIs(is_key(thing), True, repr(thing))

    def no(self, thing):
        self.assertIs(is_key(thing), False, repr(thing))

    def test_every_bare_key(self):
        for bare in BARE:
            self.yes(bare)

    def test_every_choice_of_helpers_in_order(self):
        for many in range(4):
            for chosen in itertools.combinations(HELPERS, many):
                for bare in BARE:
                    self.yes("".join(chosen) + bare)

    def test_all_helpers_in_order(self):
        self.yes("c-m-s-a")
        self.yes("c-m-s-enter")

    def test_helpers_in_another_order(self):
        for many in (2, 3):
            for chosen in itertools.permutations(HELPERS, many):
                if list(chosen) != sorted(chosen):
                    self.no("".join(chosen) + "a")
                    self.no("".join(chosen) + "tab")

    def test_a_helper_twice(self):
        for helper in HELPERS:
            self.no(helper + helper + "a")
            self.no(helper + helper + "esc")
        for text in ("c-m-c-a", "c-m-m-a", "c-c-m-a", "m-s-s-a", "c-s-c-a", "c-m-s-s-a", "c-m-s-c-a"):
            self.no(text)

    def test_nothing_behind_the_helpers(self):
        for many in (1, 2, 3):
            for chosen in itertools.combinations(HELPERS, many):
                self.no("".join(chosen))

    def test_helper_letters_are_keys_of_their_own(self):
        for text in ("c", "m", "s", "c-c", "m-m", "s-s", "c-m", "m-c", "s-c", "c-m-s-c"):
            self.yes(text)

    def test_half_a_helper(self):
        for text in ("-", "-a", "c--a", "ca", "cm-a", "c-ma", "a-", "a-c-", "x-a", "c-a-", "c-a-m-b"):
            self.no(text)

    def test_the_empty_text(self):
        self.no("")

    def test_two_signs(self):
        for text in ("ab", "a1", "12", "10", "aa", "c-ab", "s-00", "abc", string.ascii_lowercase, string.digits):
            self.no(text)

    def test_capitals(self):
        for text in ("A", "Z", "C-a", "c-A", "M-a", "S-a", "Enter", "ENTER", "eSc", "Up"):
            self.no(text)

    def test_words_that_are_no_keys(self):
        for text in ("ente", "enterr", "enteresc", "escape", "left", "right", "space", "ta", "do", "up ", " up", "updown"):
            self.no(text)

    def test_blanks_and_other_signs(self):
        for text in (" ", " a", "a ", "c- a", "c -a", "a\n", "\n", "a b"):
            self.no(text)
        for code in range(32, 127):
            sign = chr(code)
            if sign not in string.ascii_lowercase + string.digits:
                self.no(sign)
                self.no("c-" + sign)

    def test_figures_and_letters_of_other_scripts(self):
        for text in ("\u00e9", "\u00df", "\u0661", "\u00b2", "\uff41"):
            self.no(text)

    def test_things_that_are_no_texts(self):
        for thing in ODD_THINGS:
            self.no(thing)
        for thing in (7, HOUSE, MAP, ("enter",), ["enter"], ("c-", "a"), ("a", "b")):
            self.no(thing)

    def test_deep_things(self):
        for thing in deep_things():
            self.no(thing)

    def test_handed_in_is_unchanged_and_told_the_same_again(self):
        for thing in list(ODD_THINGS) + deep_things() + ["a", "c-c-a"]:
            before = repr(copy.deepcopy(thing))
            first = is_key(thing)
            self.assertEqual(repr(thing), before)
            self.assertIs(is_key(thing), first)


if __name__ == "__main__":
    unittest.main()
