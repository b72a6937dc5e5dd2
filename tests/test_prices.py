import unittest

from beadframe.prices import ByBeads, ByGrips, ByMoves, Price
from beadframe.rows import rows_between
from tests.samples import LAYOUTS, all_rod_standings, sample_frames, standings_of

KINDS = [ByMoves, ByGrips, ByBeads]

# one, other, then by moves, by grips, by beads
BY_HAND = [
    ((0, 0), (0, 0), 0, 0, 0),
    ((2, 5), (2, 5), 0, 0, 0),
    ((1, 2), (2, 2), 1, 1, 1),
    ((0, 2), (6, 2), 1, 1, 6),
    ((6, 2), (0, 2), 1, 1, 6),
    ((1, 2), (1, 4), 1, 1, 2),
    ((1, 24), (1, 0), 1, 1, 24),
    ((1, 2), (2, 1), 2, 1, 2),
    ((1, 2), (0, 4), 2, 1, 3),
    ((0, 0), (2, 5), 2, 1, 7),
    ((2, 5), (0, 0), 2, 1, 7),
    ((1, 2), (2, 3), 2, 1, 2),
]


class KindsTest(unittest.TestCase):
    def test_each_is_a_price_and_none_of_the_other_two(self):
        for kind in KINDS:
            self.assertIsInstance(kind(), Price)
            for other in KINDS:
                self.assertEqual(isinstance(kind(), other), kind is other)


class RodPriceTest(unittest.TestCase):
    def test_by_hand(self):
        for one, other, moves, grips, beads in BY_HAND:
            self.assertEqual(ByMoves().rod_price(one, other), moves, (one, other))
            self.assertEqual(ByGrips().rod_price(one, other), grips, (one, other))
            self.assertEqual(ByBeads().rod_price(one, other), beads, (one, other))

    def test_every_pair_of_a_rods_standings(self):
        for layout in LAYOUTS[:3] + LAYOUTS[12:14]:
            for one in all_rod_standings(layout):
                for other in all_rod_standings(layout):
                    row = rows_between([layout], [one], [other])
                    self.assertEqual(ByMoves().rod_price(one, other), len(row))
                    self.assertEqual(ByGrips().rod_price(one, other), min(len(row), 1))
                    self.assertEqual(ByBeads().rod_price(one, other), sum(move.beads for move in row))

    def test_whole_numbers(self):
        for kind in KINDS:
            for one, other in (((0, 1), (0, 1)), ((0, 1), (2, 3))):
                self.assertIs(type(kind().rod_price(one, other)), int)
                self.assertIs(type(kind().price([one], [other])), int)


class PriceTest(unittest.TestCase):
    def test_by_hand(self):
        one = [(0, 0), (1, 2), (2, 5), (0, 3)]
        other = [(0, 0), (2, 2), (0, 1), (0, 9)]
        self.assertEqual(ByMoves().price(one, other), 4)
        self.assertEqual(ByGrips().price(one, other), 3)
        self.assertEqual(ByBeads().price(one, other), 0 + 1 + 6 + 6)

    def test_sum_over_the_rods(self):
        for frame in sample_frames():
            standings = standings_of(frame)
            for one, other in zip(standings, standings[1:] + standings[:1]):
                kept = (list(one), list(other))
                row = rows_between(frame, one, other)
                self.assertEqual(ByMoves().price(one, other), len(row))
                self.assertEqual(ByGrips().price(one, other), len({move.rod for move in row}))
                self.assertEqual(ByBeads().price(one, other), sum(move.beads for move in row))
                for kind in KINDS:
                    self.assertEqual(kind().price(one, one), 0)
                self.assertEqual((one, other), kept)


if __name__ == "__main__":
    unittest.main()
