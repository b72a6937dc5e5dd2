import math
import unittest

from beadframe.adding import taking_row, tidied_row
from beadframe.errors import NoDivisor, TooGreat
from beadframe.frames import borne_by, is_tidy, place_of, tidy_of
from beadframe.parting import quotient_rows, root_row
from beadframe.products import product_row
from beadframe.rows import done_all, rows_between, shown_row
from tests.samples import (
    PLAIN_TEN, SOROBAN, SUANPAN, all_standings, greatest_tidy, sample_frame, sample_frames, standings_of,
)

SMALL_FRAMES = [
    [SUANPAN],
    [(0, 1, 6, 2), (2, 3, 2, 4)],
    [(1, 2, 3, 2), (0, 1, 3, 3), (2, 1, 1, 2)],
]
SECONDS = [[SOROBAN], [(0, 1, 9, 3)], [(0, 1, 1, 2)] * 3, [(1, 2, 1, 4), (0, 1, 24, 3)]]


def most_at(frame, rod):
    upper, worth, lower, base = frame[rod]
    return upper * worth + lower if rod == len(frame) - 1 else base - 1


def greatest_digit(frame, rod, fits):
    """Digits are tried one by one, from the greatest on, as points 21 and 22 tell them."""
    for digit in range(most_at(frame, rod), -1, -1):
        if fits(digit * place_of(frame, rod)):
            return digit


def become(frame, standing, rod, digit):
    upper, worth, lower, base = frame[rod]
    high = max(fit for fit in range(upper + 1) if fit * worth <= digit)
    after = list(standing)
    after[rod] = (high, digit - high * worth)
    return after


def quotient_by_the_words(frame, standing, second, divisor):
    row = tidied_row(frame, standing)
    left = borne_by(frame, standing)
    second_row = []
    stands = [(0, 0) for layout in second]
    for rod in reversed(range(len(second))):
        digit = greatest_digit(second, rod, lambda part: part * divisor <= left)
        if digit != 0:
            product = digit * place_of(second, rod) * divisor
            row = row + taking_row(frame, done_all(frame, standing, row), product)
            left -= product
            after = become(second, stands, rod, digit)
            second_row = second_row + rows_between(second, stands, after)
            stands = after
    return (shown_row(row), shown_row(second_row))


def root_by_the_words(frame, standing, second):
    number = borne_by(frame, standing)
    found = 0
    row = []
    stands = [(0, 0) for layout in second]
    for rod in reversed(range(len(second))):
        digit = greatest_digit(second, rod, lambda part: (found + part) ** 2 <= number)
        found += digit * place_of(second, rod)
        after = become(second, stands, rod, digit)
        row = row + rows_between(second, stands, after)
        stands = after
    return shown_row(row)


def shown_both(rows):
    return tuple(shown_row(row) for row in rows)


class PartingTest(unittest.TestCase):
    def assert_too_great(self, rod, asked, *handed):
        with self.assertRaises(TooGreat) as taken:
            asked(*handed)
        self.assertEqual(taken.exception.rod, rod)


class QuotientTest(PartingTest):
    def assert_quotient(self, frame, standing, second, divisor):
        rows = quotient_rows(frame, standing, second, divisor)
        self.assertEqual(shown_both(rows), quotient_by_the_words(frame, standing, second, divisor))
        quotient, rest = divmod(borne_by(frame, standing), divisor)
        clear = [(0, 0) for layout in second]
        self.assertEqual(done_all(frame, standing, rows[0]), tidy_of(frame, rest))
        self.assertEqual(done_all(second, clear, rows[1]), tidy_of(second, quotient))
        self.assertEqual(borne_by(second, done_all(second, clear, rows[1])), quotient)
        self.assertIs(is_tidy(frame, done_all(frame, standing, rows[0])), True)

    def assert_parted(self, frame, standing, second, divisor):
        """Whether a quotient is told or refused, by plain reckoning."""
        borne = borne_by(frame, standing)
        if borne > greatest_tidy(frame):
            self.assert_too_great(len(frame) - 1, quotient_rows, frame, standing, second, divisor)
        elif borne // divisor > greatest_tidy(second):
            self.assert_too_great(len(second) - 1, quotient_rows, frame, standing, second, divisor)
        else:
            self.assert_quotient(frame, standing, second, divisor)

    def quotient(self, frame, standing, second, divisor):
        return shown_both(quotient_rows(frame, standing, second, divisor))

    def test_by_hand(self):
        frame = [SOROBAN] * 3
        # 144 by 12: first 120 is taken away, then 24
        self.assertEqual(
            self.quotient(frame, tidy_of(frame, 144), frame, 12),
            ("down 2 1; down 1 2; down 1 2; down 0 4", "up 1 1; up 0 2"),
        )
        # 100 by 7: first 70, then 28; 2 are left
        self.assertEqual(
            self.quotient(frame, tidy_of(frame, 100), frame, 7),
            ("down 2 1; up 1 3; down 1 2; down 1 1; up 0 2", "up 1 1; up 0 4"),
        )

    def test_the_moves_are_a_tuple_of_two_lists(self):
        rows = quotient_rows([SOROBAN], [(1, 1)], [SOROBAN], 2)
        self.assertIsInstance(rows, tuple)
        self.assertEqual([isinstance(row, list) for row in rows], [True, True])
        self.assertEqual(shown_both(rows), ("take 0 1; down 0 1", "up 0 3"))

    def test_other_layouts(self):
        # 23 by 2 is 11, in the second's bases 1, 0, 1 and 1: 16, 4 and 2 are taken away
        frame = [SOROBAN] * 2
        second = [(0, 1, 1, 2)] * 4
        self.assertEqual(
            self.quotient(frame, [(0, 3), (0, 2)], second, 2),
            ("down 1 1; down 1 1; down 0 1; put 0 1; take 0 1; up 0 1; down 0 2", "up 3 1; up 1 1; up 0 1"),
        )

    def test_first_the_frame_is_tidied(self):
        frame = [SUANPAN, SUANPAN]
        tidied = "up 1 1; take 0 1; down 0 5"
        self.assertEqual(self.quotient(frame, [(2, 5), (0, 0)], [SOROBAN], 5), (tidied + "; down 1 1; take 0 1", "up 0 3"))
        self.assertEqual(self.quotient(frame, [(2, 5), (0, 0)], [SOROBAN], 16), (tidied, ""))

    def test_digits_that_are_0(self):
        frame = [SOROBAN] * 3
        self.assertEqual(self.quotient(frame, tidy_of(frame, 404), frame, 4), ("down 2 4; down 0 4", "up 2 1; up 0 1"))
        self.assertEqual(self.quotient(frame, tidy_of(frame, 300), frame, 3), ("down 2 3", "up 2 1"))

    def test_quotients_0(self):
        frame = [SOROBAN] * 3
        for number, divisor in ((0, 1), (0, 7), (6, 7), (99, 100), (999, 10 ** 60 - 1), (0, 10 ** 60 - 1)):
            self.assertEqual(self.quotient(frame, tidy_of(frame, number), frame, divisor), ("", ""))

    def test_parted_by_1(self):
        frame = [SOROBAN] * 2
        self.assertEqual(
            self.quotient(frame, tidy_of(frame, 37), frame, 1),
            ("down 1 3; take 0 1; down 0 2", "up 1 3; put 0 1; up 0 2"),
        )

    def test_a_last_rod_whose_digit_is_its_base_or_more(self):
        frame = [SOROBAN] * 3
        second = [SUANPAN, SUANPAN]
        # 157 on two rods: the last one counts 15
        self.assertEqual(
            self.quotient(frame, tidy_of(frame, 314), second, 2),
            ("down 2 3; down 1 1; down 0 4", "put 1 2; up 1 5; put 0 1; up 0 2"),
        )
        self.assert_quotient(frame, tidy_of(frame, 319), second, 2)
        self.assert_too_great(1, quotient_rows, frame, tidy_of(frame, 320), second, 2)
        self.assert_quotient([SUANPAN], [(2, 5)], [SUANPAN], 1)

    def test_no_divisor_goes_ahead(self):
        untidy = [(2, 5), (2, 5)]
        for standing in ([(0, 0), (0, 0)], [(1, 2), (0, 3)], untidy):
            for second in ([(0, 1, 1, 2)], [SOROBAN] * 20):
                with self.assertRaises(NoDivisor):
                    quotient_rows([SUANPAN, SUANPAN], standing, second, 0)

    def test_the_first_frame_s_refusal_goes_ahead(self):
        frame = [SUANPAN, SUANPAN]
        untidy = [(2, 5), (2, 5)]
        for second in ([(0, 1, 1, 2)], [SOROBAN] * 4):
            for divisor in (1, 2, 1000):
                self.assert_too_great(1, quotient_rows, frame, untidy, second, divisor)

    def test_the_quotient_can_not_be_borne(self):
        frame = [SOROBAN] * 3
        self.assert_quotient(frame, tidy_of(frame, 999), frame, 1)
        self.assert_too_great(0, quotient_rows, frame, tidy_of(frame, 10), [SOROBAN], 1)
        self.assert_too_great(1, quotient_rows, frame, tidy_of(frame, 200), [SOROBAN] * 2, 2)
        self.assert_quotient(frame, tidy_of(frame, 199), [SOROBAN] * 2, 2)

    def test_every_standing_of_small_frames(self):
        for frame in SMALL_FRAMES:
            for standing in all_standings(frame):
                for second in SECONDS:
                    for divisor in (1, 2, 3, 5, 7, 11, 24, 25, 100):
                        self.assert_parted(frame, standing, second, divisor)

    def test_frames_of_one_to_twenty_rods(self):
        for frame in sample_frames()[::3]:
            for standing in standings_of(frame)[:5]:
                borne = borne_by(frame, standing)
                for second in (sample_frame(20, 3), sample_frame(len(frame), 1), [SOROBAN] * 7):
                    for divisor in (1, 7, borne // 1000 + 1, borne + 1, 10 ** 60 - 1):
                        self.assert_parted(frame, standing, second, divisor)

    def test_what_is_handed_in_stays(self):
        frame = [SUANPAN, SUANPAN]
        standing = [(2, 5), (0, 0)]
        second = [SOROBAN]
        told = quotient_rows(frame, standing, second, 4)
        kept = shown_both(told)
        told[0].append("spoilt")
        told[1].append("spoilt")
        self.assertEqual(self.quotient(frame, standing, second, 4), kept)
        self.assert_too_great(0, quotient_rows, frame, standing, second, 1)
        self.assertEqual((frame, standing, second), ([SUANPAN, SUANPAN], [(2, 5), (0, 0)], [SOROBAN]))


class RootTest(PartingTest):
    def assert_root(self, frame, standing, second):
        row = root_row(frame, standing, second)
        root = math.isqrt(borne_by(frame, standing))
        self.assertEqual(shown_row(row), root_by_the_words(frame, standing, second))
        reached = done_all(second, [(0, 0) for layout in second], row)
        self.assertEqual(reached, tidy_of(second, root))
        self.assertEqual(borne_by(second, reached), root)

    def assert_found(self, frame, standing, second):
        if math.isqrt(borne_by(frame, standing)) > greatest_tidy(second):
            self.assert_too_great(len(second) - 1, root_row, frame, standing, second)
        else:
            self.assert_root(frame, standing, second)

    def root(self, number):
        frame = [SOROBAN] * 6
        return shown_row(root_row(frame, tidy_of(frame, number), [SOROBAN] * 3))

    def test_by_hand(self):
        told = {
            0: "", 1: "up 0 1", 2: "up 0 1", 3: "up 0 1", 4: "up 0 2", 24: "up 0 4", 25: "put 0 1", 26: "put 0 1",
            99: "put 0 1; up 0 4", 100: "up 1 1", 101: "up 1 1", 143: "up 1 1; up 0 1", 144: "up 1 1; up 0 2",
            40803: "up 2 2; up 0 1", 40804: "up 2 2; up 0 2", 40805: "up 2 2; up 0 2",
        }
        for number, shown in told.items():
            self.assertEqual(self.root(number), shown)

    def test_squares_and_their_neighbours(self):
        frame = [SOROBAN] * 20
        second = [SUANPAN] * 10
        for root in [0, 1, 2, 3, 9, 10, 11, 99, 100, 12345, 10 ** 9, 9999999999, 3162277660, 7071067811]:
            for number in (root * root - 1, root * root, root * root + 1, root * root + 2 * root):
                if number >= 0:
                    self.assert_root(frame, tidy_of(frame, number), second)

    def test_a_first_standing_that_is_not_tidy(self):
        frame = [SUANPAN, SUANPAN]
        for standing in ([(2, 5), (0, 1)], [(2, 4), (0, 0)], [(0, 5), (0, 2)], [(2, 0), (0, 4)]):
            self.assertIs(is_tidy(frame, standing), False)
            self.assert_root(frame, standing, [SOROBAN])

    def test_a_first_standing_without_a_tidy_one(self):
        frame = [SUANPAN, SUANPAN]
        for standing in ([(2, 5), (2, 5)], [(2, 0), (2, 5)], [(2, 4), (2, 5)]):
            self.assertGreater(borne_by(frame, standing), greatest_tidy(frame))
            self.assert_root(frame, standing, [SUANPAN])
            self.assert_root(frame, standing, frame)
            self.assert_too_great(0, root_row, frame, standing, [SOROBAN])

    def test_a_root_that_can_not_be_borne(self):
        frame = [SOROBAN] * 5
        self.assert_root(frame, tidy_of(frame, 99), [SOROBAN])
        self.assert_too_great(0, root_row, frame, tidy_of(frame, 100), [SOROBAN])
        self.assert_root(frame, tidy_of(frame, 255), [SUANPAN])
        self.assert_too_great(0, root_row, frame, tidy_of(frame, 256), [SUANPAN])
        self.assert_root(frame, tidy_of(frame, 160 ** 2 - 1), [SUANPAN] * 2)
        self.assert_too_great(1, root_row, frame, tidy_of(frame, 160 ** 2), [SUANPAN] * 2)
        self.assert_too_great(2, root_row, frame, tidy_of(frame, 99999), [(0, 1, 1, 2)] * 3)

    def test_every_standing_of_small_frames(self):
        for frame in SMALL_FRAMES:
            for standing in all_standings(frame):
                for second in SECONDS:
                    self.assert_found(frame, standing, second)

    def test_every_number_to_a_thousand(self):
        frame = [PLAIN_TEN] * 3
        for number in range(1000):
            for second in ([SOROBAN] * 2, [(0, 1, 1, 2)] * 5, [(0, 1, 2, 3), (0, 1, 9, 4)]):
                self.assert_found(frame, tidy_of(frame, number), second)

    def test_frames_of_one_to_twenty_rods(self):
        for frame in sample_frames():
            for standing in standings_of(frame):
                for second in (sample_frame(20, 3), sample_frame(len(frame), 1), [SOROBAN] * 7):
                    self.assert_found(frame, standing, second)

    def test_what_is_handed_in_stays(self):
        frame = [SUANPAN, SUANPAN]
        standing = [(2, 5), (0, 3)]
        second = [SOROBAN]
        told = root_row(frame, standing, second)
        kept = shown_row(told)
        self.assertIsInstance(told, list)
        told.append("spoilt")
        self.assertEqual(shown_row(root_row(frame, standing, second)), kept)
        self.assertEqual((frame, standing, second), ([SUANPAN, SUANPAN], [(2, 5), (0, 3)], [SOROBAN]))


class ThereAndBackTest(PartingTest):
    def test_a_product_parted_again(self):
        for frame in sample_frames()[::5]:
            number = math.isqrt(greatest_tidy(frame))
            clear = [(0, 0) for layout in frame]
            reached = done_all(frame, clear, product_row(frame, clear, number, number))
            self.assertEqual(done_all(frame, clear, root_row(frame, reached, frame)), tidy_of(frame, number))
            if number > 0:
                rows = quotient_rows(frame, reached, frame, number)
                self.assertEqual(done_all(frame, reached, rows[0]), clear)
                self.assertEqual(done_all(frame, clear, rows[1]), tidy_of(frame, number))


if __name__ == "__main__":
    unittest.main()
