"""The things that are drawn by chance are what they should be, and various."""

import unittest

from chance import drawn_pairs
from keydeeds.things import is_house, is_map


class ChanceTests(unittest.TestCase):
    def test_drawn_things_are_houses_and_maps(self):
        for house, binds in drawn_pairs(200):
            self.assertTrue(is_house(house), house)
            self.assertTrue(is_map(house, binds), binds)

    def test_all_sizes_are_drawn(self):
        pairs = drawn_pairs(200)
        self.assertEqual({len(house[0]) for house, binds in pairs}, {1, 2, 3, 4, 5, 6})
        self.assertEqual({len(house[1]) for house, binds in pairs}, {0, 1, 2, 3, 4})
        self.assertEqual({len(binds) for house, binds in pairs}, set(range(13)))

    def test_the_same_ones_each_time(self):
        self.assertEqual(drawn_pairs(20), drawn_pairs(20))


if __name__ == "__main__":
    unittest.main()
