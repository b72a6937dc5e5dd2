import unittest

from beadframe.adding import adding_row, taking_row, tidied_row
from beadframe.errors import Below, TooGreat
from beadframe.frames import borne_by, is_tidy, tidy_of
from beadframe.rows import done_all, rows_between, shown_row
from tests.samples import PLAIN_TEN, SOROBAN, SUANPAN, all_standings, greatest_tidy, sample_frames, standings_of

SMALL_FRAMES = [
    [SUANPAN],
    [(3, 2, 1, 8), (2, 3, 2, 9)],
    [(0, 1, 6, 2), (2, 3, 2, 4)],
    [(1, 2, 3, 2), (0, 1, 3, 3), (2, 1, 1, 2)],
]


def has_tidy(frame, standing):
    return borne_by(frame, standing) <= greatest_tidy(frame)


def plain_by_the_words(layout, number):
    upper, worth, lower, base = layout
    high = max(fit for fit in range(upper + 1) if fit * worth <= number)
    return (high, number - high * worth)


def digits_by_the_words(frame, number):
    digits = []
    for upper, worth, lower, base in frame[:-1]:
        number, digit = divmod(number, base)
        digits.append(digit)
    return digits + [number]


def changes_by_the_words(frame, standing, number, sign):
    """Points 17 (sign 1) and 18 (sign -1): the rods in the order in which they change, with what they count then."""
    counts = digits_by_the_words(frame, borne_by(frame, standing))
    digits = digits_by_the_words(frame, number)
    changes = []

    def work(rod, digit):
        base = frame[rod][3]
        after = counts[rod] + sign * digit
        over = rod < len(frame) - 1 and not 0 <= after < base
        if digit == 0:
            return
        if over:
            work(rod + 1, 1)
            after -= sign * base
        counts[rod] = after
        changes.append((rod, after))

    for rod in reversed(range(len(frame))):
        work(rod, digits[rod])
    return changes


def texts_by_the_words(frame, standing, number, sign):
    stands = [plain_by_the_words(*pair) for pair in zip(frame, digits_by_the_words(frame, borne_by(frame, standing)))]
    row = rows_between(frame, standing, stands)
    for rod, count in changes_by_the_words(frame, standing, number, sign):
        after = list(stands)
        after[rod] = plain_by_the_words(frame[rod], count)
        row = row + rows_between(frame, stands, after)
        stands = after
    return shown_row(row)


class RowsTest(unittest.TestCase):
    def assert_too_great(self, asked, frame, *others):
        with self.assertRaises(TooGreat) as taken:
            asked(frame, *others)
        self.assertEqual(taken.exception.rod, len(frame) - 1)

    def assert_leads(self, frame, standing, row, number):
        reached = done_all(frame, standing, row)
        self.assertEqual(reached, tidy_of(frame, number))
        self.assertEqual(borne_by(frame, reached), number)
        self.assertIs(is_tidy(frame, reached), True)


class TidiedTest(RowsTest):
    def test_by_hand(self):
        frame = [SUANPAN, SUANPAN]
        self.assertEqual(shown_row(tidied_row(frame, [(2, 5), (0, 0)])), "up 1 1; take 0 1; down 0 5")
        self.assertEqual(shown_row(tidied_row(frame, [(0, 5), (0, 5)])), "down 1 5; put 1 1; down 0 5; put 0 1")
        self.assertEqual(shown_row(tidied_row(frame, [(1, 5), (1, 4)])), "down 1 4; put 1 1; take 0 1; down 0 5")
        self.assertEqual(tidied_row(frame, [(1, 4), (2, 5)]), [])

    def test_every_standing_of_small_frames(self):
        for frame in SMALL_FRAMES:
            for standing in all_standings(frame):
                if has_tidy(frame, standing):
                    row = tidied_row(frame, standing)
                    self.assert_leads(frame, standing, row, borne_by(frame, standing))
                    self.assertEqual(row == [], is_tidy(frame, standing))
                    wanted = rows_between(frame, standing, tidy_of(frame, borne_by(frame, standing)))
                    self.assertEqual(shown_row(row), shown_row(wanted))
                else:
                    self.assert_too_great(tidied_row, frame, standing)

    def test_none_tidy(self):
        self.assert_too_great(tidied_row, [SUANPAN, SUANPAN], [(2, 0), (2, 5)])
        self.assert_too_great(tidied_row, [SUANPAN] * 3, [(2, 5), (1, 4), (2, 5)])


class AddingTest(RowsTest):
    def added(self, frame, standing, number):
        return shown_row(adding_row(frame, standing, number))

    def test_without_carries(self):
        frame = [SOROBAN] * 3
        self.assertEqual(self.added(frame, [(0, 2), (0, 1), (0, 0)], 201), "up 2 2; up 0 1")
        self.assertEqual(self.added(frame, [(0, 4), (0, 0), (0, 0)], 3), "down 0 2; put 0 1")
        self.assertEqual(self.added(frame, [(1, 2), (0, 3), (0, 4)], 161), "down 2 4; put 2 1; put 1 1; up 1 1; up 0 1")

    def test_with_carries(self):
        frame = [SOROBAN] * 3
        self.assertEqual(self.added(frame, [(1, 4), (0, 0), (0, 0)], 1), "up 1 1; take 0 1; down 0 4")
        self.assertEqual(self.added(frame, [(1, 4), (1, 4), (0, 0)], 1), "up 2 1; take 1 1; down 1 4; take 0 1; down 0 4")
        # rod 1's own digit goes first, the carry from rod 0 comes behind it
        self.assertEqual(self.added(frame, [(1, 2), (1, 3), (0, 0)], 15), "up 1 1; up 2 1; take 1 1; down 1 4; take 0 1")
        self.assertEqual(
            self.added(frame, [(1, 1), (1, 1), (0, 1)], 166),
            "up 2 1; up 2 1; take 1 1; up 1 1; up 1 1; take 0 1; up 0 1",
        )

    def test_a_last_rod_that_counts_its_base_or_more(self):
        frame = [SUANPAN, SUANPAN]
        self.assertEqual(self.added(frame, [(0, 0), (1, 4)], 10), "down 1 4; put 1 1")
        self.assertEqual(self.added(frame, [(0, 0), (2, 0)], 59), "up 1 5; put 0 1; up 0 4")
        self.assert_too_great(adding_row, frame, [(0, 0), (2, 0)], 60)
        self.assertEqual(self.added([SUANPAN], [(1, 4)], 6), "put 0 1; up 0 1")

    def test_first_the_frame_is_tidied(self):
        frame = [SUANPAN, SUANPAN]
        self.assertEqual(self.added(frame, [(2, 5), (0, 0)], 0), "up 1 1; take 0 1; down 0 5")
        self.assertEqual(self.added(frame, [(2, 5), (0, 0)], 5), "up 1 1; take 0 1; down 0 5; up 1 1; take 0 1")
        self.assertEqual(self.added(frame, [(0, 5), (0, 0)], 1), "down 0 5; put 0 1; up 0 1")

    def test_nothing_added_to_a_tidy_one(self):
        for frame in sample_frames():
            for number in (0, greatest_tidy(frame) // 3, greatest_tidy(frame)):
                self.assertEqual(adding_row(frame, tidy_of(frame, number), 0), [])
                self.assertEqual(taking_row(frame, tidy_of(frame, number), 0), [])

    def test_every_sum_of_small_frames(self):
        for frame in SMALL_FRAMES:
            for standing in all_standings(frame):
                borne = borne_by(frame, standing)
                for number in range(0, greatest_tidy(frame) + 4):
                    if borne + number > greatest_tidy(frame):
                        self.assert_too_great(adding_row, frame, standing, number)
                    else:
                        row = adding_row(frame, standing, number)
                        self.assertEqual(shown_row(row), texts_by_the_words(frame, standing, number, 1))
                        self.assert_leads(frame, standing, row, borne + number)

    def test_frames_of_one_to_twenty_rods(self):
        for frame in sample_frames():
            greatest = greatest_tidy(frame)
            for standing in standings_of(frame):
                borne = borne_by(frame, standing)
                if borne > greatest:
                    for number in (0, 1, 10 ** 59):
                        self.assert_too_great(adding_row, frame, standing, number)
                    continue
                room = greatest - borne
                for number in sorted({0, min(1, room), room // 7, room // 2, max(room - 1, 0), room}):
                    row = adding_row(frame, standing, number)
                    self.assertEqual(shown_row(row), texts_by_the_words(frame, standing, number, 1))
                    self.assert_leads(frame, standing, row, borne + number)
                for number in (room + 1, room + 2, greatest + 1, 10 ** 60 - 1):
                    self.assert_too_great(adding_row, frame, standing, number)

    def test_a_carry_over_all_rods(self):
        frame = [PLAIN_TEN] * 20
        row = adding_row(frame, tidy_of(frame, 10 ** 19 - 1), 1)
        self.assertEqual(shown_row(row), "; ".join(["up 19 1"] + [f"down {rod} 9" for rod in range(18, -1, -1)]))


class TakingTest(RowsTest):
    def taken(self, frame, standing, number):
        return shown_row(taking_row(frame, standing, number))

    def test_without_carries(self):
        frame = [SOROBAN] * 3
        self.assertEqual(self.taken(frame, [(0, 2), (0, 1), (0, 4)], 201), "down 2 2; down 0 1")
        self.assertEqual(self.taken(frame, [(1, 1), (0, 0), (0, 0)], 3), "take 0 1; up 0 2")

    def test_with_carries(self):
        frame = [SOROBAN] * 3
        self.assertEqual(self.taken(frame, [(0, 0), (0, 1), (0, 0)], 1), "down 1 1; put 0 1; up 0 4")
        self.assertEqual(self.taken(frame, [(0, 0), (0, 0), (0, 1)], 1), "down 2 1; put 1 1; up 1 4; put 0 1; up 0 4")
        # rod 1's own digit goes first, what rod 0 lacks is taken from it behind that
        self.assertEqual(self.taken(frame, [(0, 2), (0, 1), (0, 1)], 15), "down 1 1; down 2 1; put 1 1; up 1 4; put 0 1")

    def test_a_last_rod_that_counts_its_base_or_more(self):
        frame = [SUANPAN, SUANPAN]
        self.assertEqual(self.taken(frame, [(1, 4), (2, 5)], 159), "take 1 2; down 1 5; take 0 1; down 0 4")
        self.assertEqual(self.taken(frame, [(0, 0), (2, 0)], 1), "take 1 1; up 1 4; put 0 1; up 0 4")
        self.assertEqual(self.taken([SUANPAN], [(2, 5)], 6), "take 0 1; down 0 1")

    def test_first_the_frame_is_tidied(self):
        frame = [SUANPAN, SUANPAN]
        self.assertEqual(self.taken(frame, [(2, 5), (0, 0)], 0), "up 1 1; take 0 1; down 0 5")
        self.assertEqual(self.taken(frame, [(2, 5), (0, 0)], 6), "up 1 1; take 0 1; down 0 5; down 1 1; up 0 4")

    def test_every_difference_of_small_frames(self):
        for frame in SMALL_FRAMES:
            for standing in all_standings(frame):
                borne = borne_by(frame, standing)
                for number in range(borne + 4):
                    if not has_tidy(frame, standing):
                        self.assert_too_great(taking_row, frame, standing, number)
                    elif number > borne:
                        with self.assertRaises(Below):
                            taking_row(frame, standing, number)
                    else:
                        row = taking_row(frame, standing, number)
                        self.assertEqual(shown_row(row), texts_by_the_words(frame, standing, number, -1))
                        self.assert_leads(frame, standing, row, borne - number)

    def test_frames_of_one_to_twenty_rods(self):
        for frame in sample_frames():
            for standing in standings_of(frame):
                borne = borne_by(frame, standing)
                if not has_tidy(frame, standing):
                    for number in (0, 1, borne, borne + 1, 10 ** 60 - 1):
                        self.assert_too_great(taking_row, frame, standing, number)
                    continue
                for number in sorted({0, min(1, borne), borne // 7, borne // 2, max(borne - 1, 0), borne}):
                    row = taking_row(frame, standing, number)
                    self.assertEqual(shown_row(row), texts_by_the_words(frame, standing, number, -1))
                    self.assert_leads(frame, standing, row, borne - number)
                for number in (borne + 1, borne + 2, greatest_tidy(frame) + 1, 10 ** 60 - 1):
                    with self.assertRaises(Below):
                        taking_row(frame, standing, number)

    def test_too_great_goes_ahead_of_below(self):
        frame = [SUANPAN, SUANPAN]
        self.assert_too_great(taking_row, frame, [(2, 5), (2, 5)], 1)
        self.assert_too_great(taking_row, frame, [(2, 5), (2, 5)], 165)
        self.assert_too_great(taking_row, frame, [(2, 5), (2, 5)], 166)
        with self.assertRaises(Below):
            taking_row(frame, [(1, 4), (2, 5)], 160)


class BackAgainTest(RowsTest):
    def test_what_was_added_is_taken_away(self):
        for frame in sample_frames():
            number = greatest_tidy(frame) // 3
            start = tidy_of(frame, number)
            reached = done_all(frame, start, adding_row(frame, start, number + 1))
            self.assertEqual(done_all(frame, reached, taking_row(frame, reached, number + 1)), start)


class NewListsTest(RowsTest):
    def test_what_is_handed_in_stays(self):
        frame = [SUANPAN, SUANPAN]
        standing = [(2, 5), (0, 3)]
        for asked in (tidied_row, lambda *both: adding_row(*both, 7), lambda *both: taking_row(*both, 7)):
            told = asked(frame, standing)
            kept = shown_row(told)
            self.assertIsInstance(told, list)
            told.append("spoilt")
            self.assertEqual(shown_row(asked(frame, standing)), kept)
        self.assert_too_great(adding_row, frame, standing, 1000)
        with self.assertRaises(Below):
            taking_row(frame, standing, 1000)
        self.assertEqual((frame, standing), ([SUANPAN, SUANPAN], [(2, 5), (0, 3)]))


if __name__ == "__main__":
    unittest.main()
