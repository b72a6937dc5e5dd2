import unittest

from beadframe.cheapest import cheapest_of, table_of
from beadframe.errors import TooGreat
from beadframe.frames import borne_by, tidy_of
from beadframe.prices import ByBeads, ByGrips, ByMoves
from tests.samples import PLAIN_TEN, SOROBAN, SUANPAN, all_rod_standings, all_standings, sample_frame, standings_of

PRICES = [ByMoves(), ByGrips(), ByBeads()]

# rods that count their base or more, so that many numbers have several standings
SMALL_FRAMES = [
    [SUANPAN],
    [(3, 2, 1, 8), (2, 3, 2, 9)],
    [(0, 1, 6, 2), (2, 3, 2, 4)],
    [(1, 2, 3, 2), (0, 1, 3, 3), (2, 1, 1, 2)],
    [(1, 1, 1, 2), (1, 1, 2, 3), (1, 2, 1, 4), (0, 1, 3, 2)],
]

GREAT_FRAMES = [sample_frame(rods, start) for rods in range(1, 13) for start in (0, 5, 10)]


def full_of(frame):
    return borne_by(frame, [(upper, lower) for upper, worth, lower, base in frame])


def standings_by_number(frame):
    told = {}
    for standing in all_standings(frame):
        told.setdefault(borne_by(frame, standing), []).append(standing)
    return told


class CheapestTest(unittest.TestCase):
    def assert_too_great(self, frame, standing, number, price):
        with self.assertRaises(TooGreat) as taken:
            cheapest_of(frame, standing, number, price)
        self.assertEqual(taken.exception.rod, len(frame) - 1)

    def test_by_hand(self):
        frame = [SUANPAN, SUANPAN]
        self.assertEqual(cheapest_of(frame, [(1, 0), (0, 0)], 10, ByMoves()), [(1, 5), (0, 0)])
        self.assertEqual(cheapest_of(frame, [(1, 0), (0, 0)], 10, ByBeads()), [(2, 0), (0, 0)])
        self.assertEqual(cheapest_of([SUANPAN], [(0, 0)], 10, ByGrips()), [(1, 5)])
        self.assertEqual(cheapest_of([SUANPAN], [(0, 0)], 10, ByMoves()), [(2, 0)])

    def test_of_several_the_least_rod_0_then_rod_1(self):
        # 5 by one move: five lower beads or an upper one; by grips as well
        self.assertEqual(cheapest_of([SUANPAN], [(0, 0)], 5, ByMoves()), [(0, 5)])
        self.assertEqual(cheapest_of([SUANPAN], [(0, 0)], 5, ByGrips()), [(0, 5)])
        self.assertEqual(cheapest_of([SUANPAN], [(0, 0)], 5, ByBeads()), [(1, 0)])
        self.assertEqual(cheapest_of([SUANPAN] * 2, [(0, 0)] * 2, 50, ByMoves()), [(0, 0), (0, 5)])
        # 10 by one move: both upper beads of rod 0, or one lower one of rod 1
        self.assertEqual(cheapest_of([SUANPAN] * 2, [(0, 0)] * 2, 10, ByMoves()), [(0, 0), (0, 1)])
        self.assertEqual(cheapest_of([SUANPAN] * 2, [(0, 0)] * 2, 10, ByGrips()), [(0, 0), (0, 1)])
        # 10 from ten on each rod by one grip: rod 0 is cleared, or rod 1 is
        self.assertEqual(cheapest_of([SUANPAN] * 2, [(1, 5), (0, 1)], 10, ByGrips()), [(0, 0), (0, 1)])

    def test_against_all_standings_of_small_frames(self):
        for frame in SMALL_FRAMES:
            by_number = standings_by_number(frame)
            for standing in standings_of(frame):
                for price in PRICES:
                    for number, bearing in by_number.items():
                        wanted = min(bearing, key=lambda other: (price.price(standing, other), other))
                        self.assertEqual(cheapest_of(frame, standing, number, price), wanted)

    def test_some_numbers_have_several_cheapest(self):
        frame = SMALL_FRAMES[3]
        start = [(0, 0)] * 3
        for price in PRICES:
            several = 0
            for bearing in standings_by_number(frame).values():
                costs = sorted(price.price(start, other) for other in bearing)
                several += len(costs) > 1 and costs[0] == costs[1]
            self.assertGreater(several, 0)

    def test_numbers_that_none_bears(self):
        for frame in SMALL_FRAMES:
            by_number = standings_by_number(frame)
            greatest = max(by_number)
            for number in list(range(greatest + 30)) + [10 ** 60 - 1]:
                if number not in by_number:
                    self.assertGreater(number, greatest)
                    for price in PRICES:
                        self.assert_too_great(frame, standings_of(frame)[2], number, price)
        self.assert_too_great([PLAIN_TEN] * 12, [(0, 0)] * 12, 10 ** 12, ByMoves())

    def test_numbers_that_no_tidy_standing_bears(self):
        frame = [SUANPAN, SUANPAN]
        with self.assertRaises(TooGreat):
            tidy_of(frame, 165)
        for price in PRICES:
            self.assertEqual(cheapest_of(frame, [(0, 0), (0, 0)], 165, price), [(2, 5), (2, 5)])

    def test_one_standing_alone(self):
        for price in PRICES:
            told = cheapest_of([PLAIN_TEN] * 12, [(0, 5)] * 12, 123456789012, price)
            self.assertEqual(told, [(0, int(figure)) for figure in reversed("123456789012")])

    def test_a_standing_to_what_it_bears(self):
        for frame in GREAT_FRAMES:
            for standing in standings_of(frame):
                for price in PRICES:
                    self.assertEqual(cheapest_of(frame, standing, borne_by(frame, standing), price), standing)

    def test_frames_of_up_to_twelve_rods(self):
        for frame in GREAT_FRAMES:
            full = full_of(frame)
            start = standings_of(frame)[4]
            for price in PRICES:
                for number in (0, 1, full // 3, full - 1, full):
                    told = cheapest_of(frame, start, number, price)
                    self.assertEqual(borne_by(frame, told), number)
                    for rod, layout in zip(told, frame):
                        self.assertTrue(0 <= rod[0] <= layout[0] and 0 <= rod[1] <= layout[2])
                    self.assertEqual(price.price(start, told), table_of(frame, start, number, price)[0][number])
                self.assert_too_great(frame, start, full + 1, price)

    def test_no_dearer_than_the_tidy_one(self):
        for frame in GREAT_FRAMES:
            start = standings_of(frame)[5]
            number = borne_by(frame, standings_of(frame)[6])
            try:
                tidy = tidy_of(frame, number)
            except TooGreat:
                continue
            for price in PRICES:
                told = cheapest_of(frame, start, number, price)
                self.assertLessEqual(price.price(start, told), price.price(start, tidy))

    def test_what_is_handed_in_stays(self):
        frame = [SUANPAN, SOROBAN]
        standing = [(1, 5), (0, 1)]
        told = cheapest_of(frame, standing, 20, ByMoves())
        kept = list(told)
        told[0] = "spoilt"
        told.append("spoilt")
        self.assert_too_great(frame, standing, 10 ** 9, ByMoves())
        self.assertEqual((frame, standing), ([SUANPAN, SOROBAN], [(1, 5), (0, 1)]))
        self.assertEqual(cheapest_of(frame, standing, 20, ByMoves()), kept)
        same = cheapest_of(frame, standing, borne_by(frame, standing), ByMoves())
        self.assertIsNot(same, standing)


class TableTest(unittest.TestCase):
    def wanted_keys(self, frame, number):
        """The keys by the words of point 15."""
        keys = [{number}]
        for upper, worth, lower, base in frame:
            counts = {high * worth + low for high in range(upper + 1) for low in range(lower + 1)}
            keys.append({(key - count) // base for key in keys[-1] for count in counts
                         if key >= count and (key - count) % base == 0})
        return keys

    def test_by_hand(self):
        self.assertEqual(table_of([SUANPAN], [(0, 0)], 7, ByMoves()), [{7: 2}, {0: 0}])
        self.assertEqual(table_of([SUANPAN], [(0, 0)], 17, ByMoves()), [{17: None}, {1: None}])
        self.assertEqual(table_of([SUANPAN], [(0, 0)], 10, ByMoves()), [{10: 1}, {0: 0, 1: None}])
        self.assertEqual(
            table_of([SUANPAN, SUANPAN], [(0, 0), (0, 0)], 15, ByBeads()),
            [{15: 2}, {1: 1, 0: 0}, {0: 0}],
        )
        self.assertEqual(
            table_of([SUANPAN, SUANPAN], [(0, 0), (0, 0)], 165, ByGrips()),
            [{165: 2}, {16: None, 15: 1}, {0: 0, 1: None}],
        )

    def test_shape(self):
        for frame in GREAT_FRAMES:
            number = full_of(frame) // 2
            for price in PRICES:
                table = table_of(frame, standings_of(frame)[3], number, price)
                self.assertIsInstance(table, list)
                self.assertEqual(len(table), len(frame) + 1)
                for values in table:
                    self.assertIsInstance(values, dict)
                self.assertEqual(list(table[0]), [number])

    def test_keys(self):
        for frame in GREAT_FRAMES + SMALL_FRAMES:
            full = full_of(frame)
            for number in (0, 1, 7, full // 2, full, full + 1, full * 3 + 5, 10 ** 60 - 1):
                table = table_of(frame, standings_of(frame)[3], number, ByMoves())
                self.assertEqual([set(values) for values in table], self.wanted_keys(frame, number))

    def test_values_against_all_standings(self):
        for frame in SMALL_FRAMES:
            full = full_of(frame)
            behind = [standings_by_number(frame[rod:]) for rod in range(len(frame))]
            for standing in standings_of(frame)[1:5]:
                for price in PRICES:
                    for number in sorted({0, 1, 2, 5, full // 3, full // 2, full - 1, full, full + 1, full + 9}):
                        table = table_of(frame, standing, number, price)
                        for rod, values in enumerate(table[:-1]):
                            for key, value in values.items():
                                costs = [price.price(standing[rod:], other) for other in behind[rod].get(key, [])]
                                self.assertEqual(value, min(costs, default=None))
                        for key, value in table[-1].items():
                            self.assertEqual(value, 0 if key == 0 else None)

    def test_none_where_none_bears_a_number(self):
        table = table_of([PLAIN_TEN] * 3, [(0, 0)] * 3, 12345, ByMoves())
        self.assertEqual(table, [{12345: None}, {1234: None}, {123: None}, {12: None}])

    def test_the_value_of_the_number_is_the_price_of_the_cheapest(self):
        for frame in SMALL_FRAMES:
            for standing in standings_of(frame)[:4]:
                for number in range(full_of(frame) + 1):
                    for price in PRICES:
                        told = cheapest_of(frame, standing, number, price)
                        self.assertEqual(table_of(frame, standing, number, price)[0][number], price.price(standing, told))

    def test_each_value_is_the_least_over_the_rods_standings(self):
        frame = [SUANPAN, (6, 4, 3, 25), (3, 2, 1, 8)]
        standing = [(1, 3), (2, 2), (2, 0)]
        for price in PRICES:
            table = table_of(frame, standing, 1234, price)
            for rod, layout in enumerate(frame):
                for key, value in table[rod].items():
                    costs = []
                    for other in all_rod_standings(layout):
                        rest = key - other[0] * layout[1] - other[1]
                        if rest >= 0 and rest % layout[3] == 0 and table[rod + 1][rest // layout[3]] is not None:
                            costs.append(price.rod_price(standing[rod], other) + table[rod + 1][rest // layout[3]])
                    self.assertEqual(value, min(costs, default=None))

    def test_dicts_told_are_new_ones(self):
        frame = [SUANPAN, SOROBAN]
        standing = [(1, 5), (0, 1)]
        kept = [dict(values) for values in table_of(frame, standing, 20, ByBeads())]
        table = table_of(frame, standing, 20, ByBeads())
        for values in table:
            for key in list(values):
                values[key] = "spoilt"
            values["spoilt"] = 1
        table.append("spoilt")
        self.assertEqual(table_of(frame, standing, 20, ByBeads()), kept)
        self.assertEqual((frame, standing), ([SUANPAN, SOROBAN], [(1, 5), (0, 1)]))


if __name__ == "__main__":
    unittest.main()
