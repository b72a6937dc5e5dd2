import unittest

from beadframe.adding import adding_row, tidied_row
from beadframe.errors import TooGreat
from beadframe.frames import borne_by, place_of, tidy_of
from beadframe.products import product_row
from beadframe.rows import done_all, shown_row
from tests.samples import PLAIN_TEN, SOROBAN, SUANPAN, all_standings, greatest_tidy, sample_frames, standings_of

SMALL_FRAMES = [
    [SUANPAN],
    [(0, 1, 6, 2), (2, 3, 2, 4)],
    [(1, 2, 3, 2), (0, 1, 3, 3), (2, 1, 1, 2)],
]


def texts_by_the_words(frame, standing, one, other):
    """Point 20, with the first number's digits found by its places."""
    row = tidied_row(frame, standing)
    for rod in reversed(range(len(frame))):
        digit = one // place_of(frame, rod)
        one -= digit * place_of(frame, rod)
        if digit != 0:
            row = row + adding_row(frame, done_all(frame, standing, row), digit * place_of(frame, rod) * other)
    return shown_row(row)


class ProductTest(unittest.TestCase):
    def product(self, frame, standing, one, other):
        return shown_row(product_row(frame, standing, one, other))

    def assert_too_great(self, frame, standing, one, other):
        with self.assertRaises(TooGreat) as taken:
            product_row(frame, standing, one, other)
        self.assertEqual(taken.exception.rod, len(frame) - 1)

    def assert_product(self, frame, standing, one, other):
        row = product_row(frame, standing, one, other)
        self.assertEqual(shown_row(row), texts_by_the_words(frame, standing, one, other))
        self.assertEqual(done_all(frame, standing, row), tidy_of(frame, borne_by(frame, standing) + one * other))

    def test_by_hand(self):
        clear = [(0, 0)] * 4
        frame = [SOROBAN] * 4
        self.assertEqual(self.product(frame, clear, 2, 3), "put 0 1; up 0 1")
        # 10 times 12, then 2 times 12
        self.assertEqual(self.product(frame, clear, 12, 12), "up 2 1; up 1 2; up 1 2; up 0 4")
        # 20 times 34, then 1 times 34: 680 and 34
        self.assertEqual(
            self.product(frame, clear, 21, 34),
            "put 2 1; up 2 1; put 1 1; up 1 3; up 2 1; take 1 1; down 1 2; up 0 4",
        )

    def test_the_first_number_gives_the_digits(self):
        clear = [(0, 0)] * 4
        frame = [SOROBAN] * 4
        self.assertEqual(self.product(frame, clear, 11, 2), "up 1 2; up 0 2")
        self.assertEqual(self.product(frame, clear, 2, 11), "up 1 2; up 0 2")
        self.assertEqual(self.product(frame, clear, 21, 3), "put 1 1; up 1 1; up 0 3")
        self.assertEqual(self.product(frame, clear, 13, 5), "put 1 1; up 1 1; put 0 1")
        self.assertEqual(self.product(frame, clear, 19, 6), "put 1 1; up 1 1; up 2 1; take 1 1; up 0 4")
        self.assertEqual(self.product(frame, clear, 6, 19), "up 2 1; up 1 1; up 0 4")

    def test_digits_that_are_0(self):
        frame = [SOROBAN] * 4
        clear = [(0, 0)] * 4
        self.assertEqual(self.product(frame, clear, 101, 3), "up 2 3; up 0 3")
        self.assertEqual(self.product(frame, clear, 1000, 4), "up 3 4")

    def test_products_of_0(self):
        frame = [SUANPAN, SUANPAN]
        for one, other in ((0, 0), (0, 7), (7, 0), (0, 10 ** 60 - 1), (10 ** 60 - 1, 0)):
            self.assertEqual(self.product(frame, [(1, 2), (0, 1)], one, other), "")
            self.assertEqual(self.product(frame, [(2, 5), (0, 0)], one, other), "up 1 1; take 0 1; down 0 5")

    def test_first_the_frame_is_tidied(self):
        frame = [SUANPAN, SUANPAN]
        self.assertEqual(
            self.product(frame, [(2, 5), (0, 0)], 2, 4),
            "up 1 1; take 0 1; down 0 5; up 1 1; take 0 1; up 0 3",
        )

    def test_products_that_can_not_be_borne(self):
        frame = [SUANPAN, SUANPAN]
        self.assert_product(frame, [(0, 0), (0, 0)], 53, 3)
        self.assert_too_great(frame, [(0, 0), (0, 0)], 40, 4)
        self.assert_too_great(frame, [(0, 0), (0, 0)], 4, 40)
        self.assert_product(frame, [(1, 4), (0, 0)], 10, 15)
        self.assert_too_great(frame, [(2, 0), (0, 0)], 10, 15)
        self.assert_too_great(frame, [(0, 0), (0, 0)], 10 ** 60 - 1, 10 ** 60 - 1)

    def test_a_first_standing_without_a_tidy_one(self):
        frame = [SUANPAN, SUANPAN]
        for one, other in ((0, 0), (0, 5), (5, 0), (1, 1)):
            self.assert_too_great(frame, [(2, 0), (2, 5)], one, other)

    def test_small_frames(self):
        for frame in SMALL_FRAMES:
            greatest = greatest_tidy(frame)
            for standing in all_standings(frame)[::3]:
                borne = borne_by(frame, standing)
                for one in range(0, greatest + 3):
                    for other in range(0, greatest // max(one, 1) + 2):
                        if borne + one * other > greatest:
                            self.assert_too_great(frame, standing, one, other)
                        else:
                            self.assert_product(frame, standing, one, other)

    def test_frames_of_one_to_twenty_rods(self):
        for frame in sample_frames():
            greatest = greatest_tidy(frame)
            for standing in standings_of(frame)[::3]:
                borne = borne_by(frame, standing)
                if borne > greatest:
                    self.assert_too_great(frame, standing, 0, 1)
                    continue
                room = greatest - borne
                for one in (1, 7, 10 ** 5 + 203, room // 3 + 1):
                    self.assert_product(frame, standing, one, room // one)
                    self.assert_too_great(frame, standing, one, room // one + 1)

    def test_a_frame_of_twenty_rods(self):
        frame = [PLAIN_TEN] * 20
        self.assert_product(frame, [(0, 1)] * 20, 1234567890, 7000000001)

    def test_what_is_handed_in_stays(self):
        frame = [SUANPAN, SUANPAN]
        standing = [(2, 5), (0, 0)]
        told = product_row(frame, standing, 3, 4)
        kept = shown_row(told)
        self.assertIsInstance(told, list)
        told.append("spoilt")
        self.assert_too_great(frame, standing, 100, 100)
        self.assertEqual(self.product(frame, standing, 3, 4), kept)
        self.assertEqual((frame, standing), ([SUANPAN, SUANPAN], [(2, 5), (0, 0)]))


if __name__ == "__main__":
    unittest.main()
