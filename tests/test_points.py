import fractions
import unittest

from beadframe.errors import Between, TooGreat
from beadframe.frames import borne_by, tidy_of
from beadframe.points import brought_row, part_borne, part_cut, part_set
from beadframe.rows import done_all, rows_between, shown_row
from tests.samples import (
    PLAIN_TEN, SIXTY_LIKE, SOROBAN, SUANPAN, all_standings, greatest_tidy, sample_frame, sample_frames, standings_of,
)

SMALL_FRAMES = [
    [SUANPAN],
    [(0, 1, 6, 2), (2, 3, 2, 4)],
    [(1, 2, 3, 2), (0, 1, 3, 3), (2, 1, 1, 2)],
]


def place_at(frame, point):
    place = 1
    for upper, worth, lower, base in frame[:point]:
        place *= base
    return place


def pair_of(fraction):
    return (fraction.numerator, fraction.denominator)


class PointsTest(unittest.TestCase):
    def assert_too_great(self, rod, asked, *handed):
        with self.assertRaises(TooGreat) as taken:
            asked(*handed)
        self.assertEqual(taken.exception.rod, rod)


class BroughtTest(PointsTest):
    def brought(self, frame, standing, other, other_standing):
        return shown_row(brought_row(frame, standing, other, other_standing))

    def test_by_hand(self):
        soroban = [SOROBAN] * 3
        self.assertEqual(self.brought(soroban, tidy_of(soroban, 107), [PLAIN_TEN] * 3, [(0, 0)] * 3), "up 2 1; up 0 7")
        self.assertEqual(self.brought([SIXTY_LIKE], [(6, 3)], [SOROBAN] * 2, [(0, 0)] * 2), "up 1 2; put 0 1; up 0 2")
        self.assertEqual(self.brought([SOROBAN], [(1, 4)], [(0, 1, 1, 2)] * 4, [(0, 1)] * 4), "down 2 1; down 1 1")

    def test_the_moves_are_the_other_frame_s(self):
        frame = [SUANPAN, SUANPAN]
        other = [SOROBAN] * 2
        self.assertEqual(self.brought(frame, [(2, 5), (0, 1)], other, [(1, 3), (0, 4)]), "down 1 2; down 0 3")
        self.assertEqual(self.brought(frame, [(0, 0), (0, 0)], other, [(1, 3), (0, 4)]), "down 1 4; take 0 1; down 0 3")

    def test_to_a_standing_that_bears_it_but_is_not_tidy(self):
        frame = [SUANPAN, SUANPAN]
        self.assertEqual(self.brought([SOROBAN] * 2, [(0, 0), (0, 1)], frame, [(2, 0), (0, 0)]), "up 1 1; take 0 2")
        self.assertEqual(self.brought(frame, [(2, 0), (0, 0)], frame, [(2, 0), (0, 0)]), "up 1 1; take 0 2")
        self.assertEqual(self.brought(frame, [(2, 0), (0, 0)], frame, [(0, 0), (0, 1)]), "")

    def test_from_a_standing_without_a_tidy_one(self):
        frame = [SUANPAN, SUANPAN]
        clear = [(0, 0)] * 3
        self.assertEqual(self.brought(frame, [(2, 5), (2, 5)], [SOROBAN] * 3, clear), "up 2 1; put 1 1; up 1 1; put 0 1")
        self.assert_too_great(1, brought_row, frame, [(2, 5), (2, 5)], frame, [(2, 5), (2, 5)])

    def test_too_great(self):
        self.assert_too_great(0, brought_row, [SOROBAN] * 2, [(0, 0), (0, 1)], [SOROBAN], [(0, 0)])
        self.assert_too_great(2, brought_row, [SOROBAN], [(1, 3)], [(0, 1, 1, 2)] * 3, [(0, 0)] * 3)
        self.assertEqual(self.brought([SOROBAN], [(1, 2)], [(0, 1, 1, 2)] * 3, [(0, 0)] * 3), "up 2 1; up 1 1; up 0 1")
        self.assertEqual(self.brought([SOROBAN] * 3, tidy_of([SOROBAN] * 3, 159), [SUANPAN] * 2, [(1, 4), (2, 5)]), "")
        self.assert_too_great(1, brought_row, [SOROBAN] * 3, tidy_of([SOROBAN] * 3, 160), [SUANPAN] * 2, [(0, 0)] * 2)

    def test_unlike_layouts_and_numbers_of_rods(self):
        for frame in sample_frames()[::3]:
            for standing in standings_of(frame):
                borne = borne_by(frame, standing)
                for other in (sample_frame(20, 3), sample_frame(len(frame), 1), sample_frame(5, 7), [SOROBAN]):
                    for other_standing in standings_of(other)[:4]:
                        if borne > greatest_tidy(other):
                            self.assert_too_great(len(other) - 1, brought_row, frame, standing, other, other_standing)
                            continue
                        row = brought_row(frame, standing, other, other_standing)
                        tidy = tidy_of(other, borne)
                        self.assertEqual(shown_row(row), shown_row(rows_between(other, other_standing, tidy)))
                        self.assertEqual(done_all(other, other_standing, row), tidy)

    def test_what_is_handed_in_stays(self):
        frame = [SUANPAN, SUANPAN]
        standing = [(2, 5), (0, 3)]
        other = [SOROBAN] * 2
        other_standing = [(0, 1), (0, 2)]
        told = brought_row(frame, standing, other, other_standing)
        kept = shown_row(told)
        self.assertIsInstance(told, list)
        told.append("spoilt")
        self.assertEqual(self.brought(frame, standing, other, other_standing), kept)
        self.assertEqual((frame, standing), ([SUANPAN, SUANPAN], [(2, 5), (0, 3)]))
        self.assertEqual((other, other_standing), ([SOROBAN] * 2, [(0, 1), (0, 2)]))


class BorneTest(PointsTest):
    def test_each_point(self):
        frame = [SOROBAN] * 3
        standing = tidy_of(frame, 250)
        told = [part_borne(frame, standing, point) for point in range(4)]
        self.assertEqual(told, [(250, 1), (25, 1), (5, 2), (1, 4)])

    def test_unlike_bases(self):
        frame = [(0, 1, 1, 2), SIXTY_LIKE, (0, 1, 2, 3)]
        standing = [(0, 1), (2, 1), (0, 2)]
        # 1 and 9 times 2 and 2 times 50
        told = [part_borne(frame, standing, point) for point in range(4)]
        self.assertEqual(told, [(119, 1), (119, 2), (119, 50), (119, 150)])

    def test_nought(self):
        for frame in sample_frames()[::7]:
            for point in range(len(frame) + 1):
                self.assertEqual(part_borne(frame, [(0, 0) for layout in frame], point), (0, 1))

    def test_it_is_a_tuple_of_whole_numbers(self):
        told = part_borne([SOROBAN], [(1, 0)], 1)
        self.assertEqual(told, (1, 2))
        self.assertIsInstance(told, tuple)
        self.assertEqual([isinstance(number, int) for number in told], [True, True])

    def test_standings_that_are_not_tidy(self):
        frame = [SUANPAN, SUANPAN]
        self.assertEqual(part_borne(frame, [(2, 5), (0, 1)], 1), (5, 2))
        self.assertEqual(part_borne(frame, [(2, 5), (2, 5)], 2), (33, 20))

    def test_by_plain_fractions(self):
        for frame in sample_frames()[::3]:
            for standing in standings_of(frame):
                for point in range(len(frame) + 1):
                    wanted = fractions.Fraction(borne_by(frame, standing), place_at(frame, point))
                    self.assertEqual(part_borne(frame, standing, point), pair_of(wanted))

    def test_what_is_handed_in_stays(self):
        frame = [SUANPAN, SUANPAN]
        standing = [(2, 5), (0, 3)]
        part_borne(frame, standing, 1)
        self.assertEqual((frame, standing), ([SUANPAN, SUANPAN], [(2, 5), (0, 3)]))


class SetTest(PointsTest):
    def assert_between(self, frame, point, part):
        with self.assertRaises(Between):
            part_set(frame, point, part)

    def test_borne(self):
        frame = [SOROBAN] * 3
        self.assertEqual(part_set(frame, 0, (250, 1)), tidy_of(frame, 250))
        self.assertEqual(part_set(frame, 1, (25, 1)), tidy_of(frame, 250))
        self.assertEqual(part_set(frame, 2, (5, 2)), tidy_of(frame, 250))
        self.assertEqual(part_set(frame, 3, (1, 4)), tidy_of(frame, 250))
        self.assertEqual(part_set(frame, 3, (0, 1)), [(0, 0)] * 3)
        self.assertEqual(part_set([SUANPAN], 1, (3, 2)), [(2, 5)])

    def test_between(self):
        frame = [SOROBAN] * 3
        for point, part in ((0, (1, 2)), (1, (1, 3)), (2, (1, 3)), (3, (1, 3)), (1, (1, 20)), (3, (1, 2000))):
            self.assert_between(frame, point, part)
        # just below the greatest one
        self.assert_between(frame, 2, (1997, 200))
        self.assert_between(frame, 0, (1997, 2))

    def test_too_great(self):
        frame = [SOROBAN] * 3
        self.assertEqual(part_set(frame, 2, (999, 100)), [(1, 4)] * 3)
        self.assert_too_great(2, part_set, frame, 2, (10, 1))
        self.assert_too_great(2, part_set, frame, 0, (1000, 1))
        self.assert_too_great(2, part_set, frame, 3, (1, 1))
        self.assert_too_great(2, part_set, frame, 1, (10 ** 60 - 1, 1))
        self.assert_too_great(0, part_set, [SUANPAN], 1, (8, 5))

    def test_above_the_greatest_and_between_its_parts(self):
        frame = [SOROBAN] * 3
        self.assert_too_great(2, part_set, frame, 2, (1999, 200))
        self.assert_too_great(2, part_set, frame, 0, (2997 + 1, 3))
        self.assert_too_great(2, part_set, frame, 2, (10 ** 60 - 1, 10 ** 59))

    def test_every_fraction_of_small_frames(self):
        for frame in SMALL_FRAMES:
            greatest = greatest_tidy(frame)
            for point in range(len(frame) + 1):
                place = place_at(frame, point)
                for top in range(4 * greatest + 9):
                    part = fractions.Fraction(top, 4 * place)
                    if part > fractions.Fraction(greatest, place):
                        self.assert_too_great(len(frame) - 1, part_set, frame, point, pair_of(part))
                    elif top % 4 != 0:
                        self.assert_between(frame, point, pair_of(part))
                    else:
                        self.assertEqual(part_set(frame, point, pair_of(part)), tidy_of(frame, top // 4))

    def test_there_and_back(self):
        for frame in sample_frames()[::3]:
            for number in (0, 1, greatest_tidy(frame) // 3, greatest_tidy(frame)):
                standing = tidy_of(frame, number)
                for point in range(len(frame) + 1):
                    self.assertEqual(part_set(frame, point, part_borne(frame, standing, point)), standing)

    def test_what_is_handed_in_stays(self):
        frame = [SOROBAN] * 2
        told = part_set(frame, 1, (5, 2))
        self.assertIsInstance(told, list)
        told.append("spoilt")
        self.assertEqual(part_set(frame, 1, (5, 2)), [(1, 0), (0, 2)])
        self.assertEqual(frame, [SOROBAN] * 2)


class CutTest(PointsTest):
    def test_borne(self):
        frame = [SOROBAN] * 3
        self.assertEqual(part_cut(frame, 2, (5, 2)), (tidy_of(frame, 250), (0, 1)))
        self.assertEqual(part_cut(frame, 0, (0, 1)), ([(0, 0)] * 3, (0, 1)))
        self.assertEqual(part_cut(frame, 3, (999, 1000)), ([(1, 4)] * 3, (0, 1)))

    def test_between_two(self):
        frame = [SOROBAN] * 3
        self.assertEqual(part_cut(frame, 3, (1, 3)), (tidy_of(frame, 333), (1, 3000)))
        self.assertEqual(part_cut(frame, 2, (1, 3)), (tidy_of(frame, 33), (1, 300)))
        self.assertEqual(part_cut(frame, 1, (1, 3)), (tidy_of(frame, 3), (1, 30)))
        self.assertEqual(part_cut(frame, 0, (1, 3)), (tidy_of(frame, 0), (1, 3)))
        self.assertEqual(part_cut(frame, 0, (22, 7)), (tidy_of(frame, 3), (1, 7)))
        # 1 by 8 less 1 by 10 are 2 by 80
        self.assertEqual(part_cut(frame, 1, (1, 8)), (tidy_of(frame, 1), (1, 40)))
        self.assertEqual(part_cut([(0, 1, 1, 2)], 1, (3, 4)), ([(0, 1)], (1, 4)))

    def test_above_the_greatest_by_less_than_one_part(self):
        frame = [SOROBAN] * 2
        self.assertEqual(part_cut(frame, 0, (199, 2)), ([(1, 4)] * 2, (1, 2)))
        self.assertEqual(part_cut(frame, 1, (199, 20)), ([(1, 4)] * 2, (1, 20)))
        self.assertEqual(part_cut(frame, 2, (1999, 2000)), ([(1, 4)] * 2, (19, 2000)))

    def test_above_the_greatest_by_one_part_or_more(self):
        frame = [SOROBAN] * 2
        for point, part in ((0, (100, 1)), (1, (10, 1)), (2, (1, 1)), (0, (201, 2)), (2, (10 ** 60 - 1, 1))):
            self.assert_too_great(1, part_cut, frame, point, part)
        self.assertEqual(part_cut([SUANPAN], 1, (31, 20)), ([(2, 5)], (1, 20)))
        self.assert_too_great(0, part_cut, [SUANPAN], 1, (8, 5))

    def test_every_fraction_of_small_frames(self):
        for frame in SMALL_FRAMES:
            greatest = greatest_tidy(frame)
            for point in range(len(frame) + 1):
                place = place_at(frame, point)
                for top in range(6 * greatest + 20):
                    part = fractions.Fraction(top, 6 * place)
                    if part >= fractions.Fraction(greatest + 1, place):
                        self.assert_too_great(len(frame) - 1, part_cut, frame, point, pair_of(part))
                        continue
                    left = part - fractions.Fraction(top // 6, place)
                    self.assertLess(left, fractions.Fraction(1, place))
                    self.assertEqual(part_cut(frame, point, pair_of(part)), (tidy_of(frame, top // 6), pair_of(left)))

    def test_sixty_figures(self):
        part = (10 ** 60 - 1, 10 ** 60 - 2)
        for frame in sample_frames()[1::7]:
            for point in range(len(frame)):
                place = place_at(frame, point)
                standing, left = part_cut(frame, point, part)
                self.assertEqual(standing, tidy_of(frame, place))
                self.assertEqual(left, pair_of(fractions.Fraction(*part) - 1))

    def test_kinds_and_what_is_handed_in_stays(self):
        frame = [SOROBAN] * 2
        told = part_cut(frame, 1, (1, 3))
        self.assertEqual([isinstance(told, tuple), isinstance(told[0], list), isinstance(told[1], tuple)], [True] * 3)
        told[0].append("spoilt")
        self.assertEqual(part_cut(frame, 1, (1, 3)), ([(0, 3), (0, 0)], (1, 30)))
        self.assertEqual(frame, [SOROBAN] * 2)


if __name__ == "__main__":
    unittest.main()
