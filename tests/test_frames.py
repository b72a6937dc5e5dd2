import math
import unittest

from beadframe.errors import TooGreat
from beadframe.frames import borne_by, clear_of, digits_of, is_tidy, place_of, tidy_of
from beadframe.layouts import full_worth
from tests.samples import (
    PLAIN_TEN, SOROBAN, SUANPAN, all_standings, greatest_tidy, sample_frame, sample_frames, sample_numbers,
)

SMALL_FRAMES = [
    [SUANPAN],
    [PLAIN_TEN],
    [(3, 2, 1, 8), (2, 3, 2, 9)],
    [(0, 1, 6, 2), (2, 3, 2, 4)],
    [SUANPAN, SUANPAN],
    [(1, 2, 3, 2), (0, 1, 3, 3), (2, 1, 1, 2)],
    [(1, 1, 1, 2), (1, 1, 2, 3), (1, 2, 1, 4), (0, 1, 3, 2)],
]


def tidy_by_the_words(frame, standing):
    """Point 7, written out once more."""
    for rod, (layout, (high, low)) in enumerate(zip(frame, standing)):
        upper, worth, lower, base = layout
        count = high * worth + low
        if rod < len(frame) - 1 and count >= base:
            return False
        if high != max(fit for fit in range(upper + 1) if fit * worth <= count):
            return False
    return True


class PlaceTest(unittest.TestCase):
    def test_by_hand(self):
        frame = [SOROBAN, (0, 1, 1, 2), (6, 4, 3, 25), (0, 1, 24, 12)]
        self.assertEqual([place_of(frame, rod) for rod in range(4)], [1, 10, 20, 500])

    def test_product_of_all_bases_ahead(self):
        for frame in sample_frames():
            for rod in range(len(frame)):
                self.assertEqual(place_of(frame, rod), math.prod(layout[3] for layout in frame[:rod]))

    def test_a_place_of_many_figures(self):
        self.assertEqual(place_of([(0, 1, 24, 25)] * 20, 19), 25 ** 19)


class BorneTest(unittest.TestCase):
    def test_by_hand(self):
        self.assertEqual(borne_by([SOROBAN], [(1, 2)]), 7)
        self.assertEqual(borne_by([SOROBAN, SOROBAN], [(1, 2), (0, 3)]), 37)
        self.assertEqual(borne_by([SUANPAN, SUANPAN], [(2, 5), (2, 5)]), 165)
        self.assertEqual(borne_by([(0, 1, 1, 2), (0, 1, 9, 10), SOROBAN], [(0, 1), (0, 4), (1, 1)]), 1 + 8 + 120)

    def test_sum_of_counts_times_places(self):
        for frame in sample_frames():
            standing = [(upper, lower // 2) for upper, worth, lower, base in frame]
            total = 0
            for rod, (high, low) in enumerate(standing):
                total += (high * frame[rod][1] + low) * math.prod(layout[3] for layout in frame[:rod])
            self.assertEqual(borne_by(frame, standing), total)

    def test_every_rod_alone(self):
        frame = sample_frame(20)
        for rod in range(20):
            standing = clear_of(frame)
            standing[rod] = (frame[rod][0], frame[rod][2])
            self.assertEqual(borne_by(frame, standing), full_worth(frame[rod]) * place_of(frame, rod))


class ClearTest(unittest.TestCase):
    def test_no_bead_at_the_bar(self):
        for frame in sample_frames():
            standing = clear_of(frame)
            self.assertEqual(standing, [(0, 0)] * len(frame))
            self.assertEqual(borne_by(frame, standing), 0)
            self.assertIs(is_tidy(frame, standing), True)


class DigitsTest(unittest.TestCase):
    def test_by_hand(self):
        self.assertEqual(digits_of([SOROBAN] * 4, 907), [7, 0, 9, 0])
        self.assertEqual(digits_of([SOROBAN] * 2, 907), [7, 90])
        self.assertEqual(digits_of([SOROBAN], 907), [907])
        self.assertEqual(digits_of([(0, 1, 1, 2), (0, 1, 6, 7), SOROBAN], 907), [1, 5, 64])
        self.assertEqual(digits_of([SOROBAN] * 3, 0), [0, 0, 0])

    def test_digits_make_the_number(self):
        for frame in sample_frames():
            for number in sample_numbers():
                digits = digits_of(frame, number)
                self.assertEqual(len(digits), len(frame))
                for layout, digit in list(zip(frame, digits))[:-1]:
                    self.assertTrue(0 <= digit < layout[3])
                self.assertEqual(sum(digit * place_of(frame, rod) for rod, digit in enumerate(digits)), number)

    def test_the_last_digit_is_all_that_is_left(self):
        number = 10 ** 60 - 1
        self.assertEqual(digits_of([PLAIN_TEN] * 20, number), [9] * 19 + [10 ** 41 - 1])


class TidyTest(unittest.TestCase):
    def assert_too_great(self, frame, number):
        with self.assertRaises(TooGreat) as taken:
            tidy_of(frame, number)
        self.assertEqual(taken.exception.rod, len(frame) - 1)

    def test_by_hand(self):
        self.assertEqual(tidy_of([SOROBAN, SOROBAN], 37), [(1, 2), (0, 3)])
        self.assertEqual(tidy_of([SUANPAN, SUANPAN], 159), [(1, 4), (2, 5)])
        self.assertEqual(tidy_of([SUANPAN], 10), [(2, 0)])
        self.assert_too_great([SUANPAN, SUANPAN], 160)
        self.assert_too_great([SOROBAN], 10)

    def test_at_and_beyond_the_greatest(self):
        for frame in sample_frames():
            greatest = greatest_tidy(frame)
            for number in (0, 1, greatest // 2, greatest - 1, greatest):
                standing = tidy_of(frame, number)
                self.assertEqual(borne_by(frame, standing), number)
                self.assertIs(is_tidy(frame, standing), True)
            self.assertEqual(tidy_of(frame, 0), clear_of(frame))
            for number in (greatest + 1, greatest + 2, 2 * greatest + 2, greatest * 10 ** 20 + 7, 10 ** 60 - 1):
                self.assert_too_great(frame, number)

    def test_numbers_of_many_figures(self):
        for frame in sample_frames():
            for number in sample_numbers():
                if number > greatest_tidy(frame):
                    self.assert_too_great(frame, number)
                else:
                    standing = tidy_of(frame, number)
                    self.assertEqual(borne_by(frame, standing), number)
                    self.assertTrue(tidy_by_the_words(frame, standing))

    def test_every_standing_of_small_frames(self):
        for frame in SMALL_FRAMES:
            tidy = {}
            for standing in all_standings(frame):
                told = is_tidy(frame, standing)
                self.assertIs(told, tidy_by_the_words(frame, standing), (frame, standing))
                if told:
                    number = borne_by(frame, standing)
                    self.assertNotIn(number, tidy)
                    tidy[number] = standing
            self.assertEqual(sorted(tidy), list(range(greatest_tidy(frame) + 1)))
            for number, standing in tidy.items():
                self.assertEqual(tidy_of(frame, number), standing)

    def test_standings_that_are_not_plain(self):
        self.assertIs(is_tidy([SUANPAN], [(0, 5)]), False)
        self.assertIs(is_tidy([SUANPAN], [(1, 5)]), False)
        self.assertIs(is_tidy([SUANPAN], [(2, 5)]), True)
        self.assertIs(is_tidy([SUANPAN] * 3, [(0, 1), (0, 5), (0, 1)]), False)
        self.assertIs(is_tidy([SUANPAN] * 3, [(0, 5), (0, 1), (0, 1)]), False)
        self.assertIs(is_tidy([SUANPAN] * 3, [(0, 1), (0, 1), (0, 5)]), False)
        self.assertIs(is_tidy([SUANPAN] * 3, [(0, 1), (1, 0), (0, 1)]), True)

    def test_a_rod_that_counts_its_base_or_more(self):
        self.assertIs(is_tidy([SUANPAN, SUANPAN], [(2, 0), (0, 0)]), False)
        self.assertIs(is_tidy([SUANPAN, SUANPAN], [(2, 5), (0, 0)]), False)
        self.assertIs(is_tidy([SUANPAN, SUANPAN], [(1, 4), (2, 0)]), True)
        self.assertIs(is_tidy([SUANPAN, SUANPAN], [(1, 4), (2, 5)]), True)
        self.assertIs(is_tidy([SUANPAN] * 3, [(0, 0), (2, 0), (0, 0)]), False)


class NewListsTest(unittest.TestCase):
    def test_what_is_handed_in_stays(self):
        for frame in sample_frames():
            standing = tidy_of(frame, greatest_tidy(frame))
            frame_before = list(frame)
            standing_before = list(standing)
            place_of(frame, len(frame) - 1)
            borne_by(frame, standing)
            clear_of(frame)
            digits_of(frame, 10 ** 59)
            tidy_of(frame, 1)
            is_tidy(frame, standing)
            with self.assertRaises(TooGreat):
                tidy_of(frame, 10 ** 60)
            self.assertEqual(frame, frame_before)
            self.assertEqual(standing, standing_before)

    def test_lists_told_are_new_ones(self):
        frame = [SOROBAN, SUANPAN]
        askings = [
            lambda: clear_of(frame),
            lambda: digits_of(frame, 37),
            lambda: tidy_of(frame, 37),
            lambda: tidy_of(frame, 0),
        ]
        for asking in askings:
            first = asking()
            kept = list(first)
            self.assertIsInstance(first, list)
            self.assertIsNot(asking(), first)
            first.append("spoilt")
            first[0] = "spoilt"
            self.assertEqual(asking(), kept)
            self.assertEqual(frame, [SOROBAN, SUANPAN])

    def test_rods_stand_as_tuples(self):
        frame = [SOROBAN, SUANPAN]
        for standing in (clear_of(frame), tidy_of(frame, 37)):
            for rod_standing in standing:
                self.assertIsInstance(rod_standing, tuple)


if __name__ == "__main__":
    unittest.main()
