import unittest

from beadframe.errors import NoStanding
from beadframe.standings import read_standing, shown_standing
from tests.samples import NO_TEXTS, PLAIN_TEN, SOROBAN, SUANPAN, all_standings, sample_frames, standings_of


class WrittenTest(unittest.TestCase):
    def test_by_hand(self):
        self.assertEqual(shown_standing([(1, 2), (0, 3)]), "0.3 1.2")
        self.assertEqual(shown_standing([(0, 0)]), "0.0")
        self.assertEqual(shown_standing([(6, 24), (0, 10), (2, 5)]), "2.5 0.10 6.24")
        self.assertEqual(read_standing([SOROBAN, SOROBAN], "0.3 1.2"), [(1, 2), (0, 3)])
        self.assertEqual(read_standing([SUANPAN], "2.5"), [(2, 5)])
        self.assertEqual(read_standing([(6, 20, 24, 25), PLAIN_TEN], "0.9 6.24"), [(6, 24), (0, 9)])

    def test_written_and_read_back_of_one_to_twenty_rods(self):
        for frame in sample_frames():
            for standing in standings_of(frame):
                text = shown_standing(standing)
                words = [f"{high}.{low}" for high, low in standing]
                self.assertEqual(text, " ".join(words[::-1]))
                self.assertEqual(read_standing(frame, text), standing)

    def test_every_standing_of_a_small_frame(self):
        frame = [SUANPAN, (0, 1, 12, 10)]
        for standing in all_standings(frame):
            self.assertEqual(read_standing(frame, shown_standing(standing)), standing)

    def test_kinds(self):
        standing = read_standing([SOROBAN, SUANPAN], "2.5 1.4")
        self.assertIsInstance(standing, list)
        for rod_standing in standing:
            self.assertIsInstance(rod_standing, tuple)
        self.assertIsInstance(shown_standing(standing), str)


class RefusedTest(unittest.TestCase):
    frame = [SOROBAN, (0, 1, 24, 25), SUANPAN]
    whole = "2.5 0.20 1.4"

    def assert_refused(self, text, frame=None):
        with self.assertRaises(NoStanding, msg=repr(text)):
            read_standing(frame or self.frame, text)

    def test_the_text_without_faults_is_read(self):
        self.assertEqual(read_standing(self.frame, self.whole), [(1, 4), (0, 20), (2, 5)])

    def test_a_nought_ahead(self):
        for text in ("02.5 0.20 1.4", "2.05 0.20 1.4", "2.5 00.20 1.4", "2.5 0.020 1.4", "2.5 0.20 01.4", "2.5 0.20 1.00"):
            self.assert_refused(text)
        self.assert_refused("00.0", [SOROBAN])
        self.assert_refused("0.00", [SOROBAN])

    def test_one_sign_more_anywhere(self):
        frame = [(6, 1, 24, 25), (6, 1, 24, 25)]
        whole = "2.5 3.4"
        for sign in " \t\n\r\v\f+-_.,;/a\u00a0\u2028\u0665\u00b2\uff11\0":
            for place in range(len(whole) + 1):
                self.assert_refused(whole[:place] + sign + whole[place:], frame)

    def test_one_sign_less_anywhere(self):
        for place in range(len(self.whole)):
            if place not in (6, 7):
                self.assert_refused(self.whole[:place] + self.whole[place + 1:])

    def test_blanks(self):
        for text in (" 2.5 0.20 1.4", "2.5 0.20 1.4 ", "2.5  0.20 1.4", "2.5\t0.20\t1.4", "2. 5 0.20 1.4", "2 .5 0.20 1.4"):
            self.assert_refused(text)

    def test_points_lacking_or_over(self):
        for text in ("25 0.20 1.4", "2.5 0.20 14", "2.5. 0.20 1.4", ".2.5 0.20 1.4", "2..5 0.20 1.4", "2.5 0.2.0 1.4",
                     "2.5 . 1.4", "2. 0.20 1.4", ".5 0.20 1.4", "2,5 0.20 1.4", "2:5 0.20 1.4"):
            self.assert_refused(text)

    def test_signs_and_other_figures(self):
        for text in ("+2.5 0.20 1.4", "-2.5 0.20 1.4", "2.-5 0.20 1.4", "2.5 -0.20 1.4", "2.5 0.2_0 1.4", "a.5 0.20 1.4",
                     "\u0662.5 0.20 1.4", "2.\u0665 0.20 1.4", "\u00b2.5 0.20 1.4", "2.5 0.20 1.\uff14"):
            self.assert_refused(text)

    def test_line_ends(self):
        for text in ("2.5 0.20 1.4\n", "\n2.5 0.20 1.4", "2.5\n0.20 1.4", "2.5 0.20\r\n1.4", "2.5 0.20 1.4\r"):
            self.assert_refused(text)

    def test_words_too_many_or_too_few(self):
        for text in ("", " ", "2.5", "2.5 0.20", "0.20 1.4", "2.5 0.20 1.4 0.0", "0.0 2.5 0.20 1.4"):
            self.assert_refused(text)
        self.assert_refused("", [SOROBAN])
        self.assert_refused("0.0 0.0", [SOROBAN])

    def test_more_beads_than_a_rod_has(self):
        for text in ("3.5 0.20 1.4", "2.6 0.20 1.4", "2.5 1.20 1.4", "2.5 0.25 1.4", "2.5 0.20 2.4", "2.5 0.20 1.5",
                     "2.5 0.100 1.4", "2.5 0.20 10.4", "1.4 0.20 2.5"):
            self.assert_refused(text)

    def test_each_rod_at_and_beyond_its_beads(self):
        for frame in sample_frames():
            for rod, (upper, worth, lower, base) in enumerate(frame):
                words = ["0.0"] * len(frame)
                place = len(frame) - 1 - rod
                words[place] = f"{upper}.{lower}"
                self.assertEqual(read_standing(frame, " ".join(words))[rod], (upper, lower))
                for beyond in (f"{upper + 1}.{lower}", f"{upper}.{lower + 1}"):
                    words[place] = beyond
                    self.assert_refused(" ".join(words), frame)

    def test_very_long_texts(self):
        for text in ("9" * 5000 + ".0", "0." + "9" * 9000, "0" * 9000, "." * 9000, " " * 9000, "0.0 " * 2000):
            self.assert_refused(text)
            self.assert_refused(text, [SOROBAN])

    def test_what_is_no_text(self):
        for thing in NO_TEXTS + [[(0, 0)], [(1, 4), (0, 20), (2, 5)]]:
            self.assert_refused(thing)
            self.assert_refused(thing, [SOROBAN])


class NewListsTest(unittest.TestCase):
    def test_what_is_handed_in_stays(self):
        frame = [SOROBAN, SUANPAN]
        standing = [(1, 2), (0, 3)]
        shown_standing(standing)
        read_standing(frame, "0.3 1.2")
        with self.assertRaises(NoStanding):
            read_standing(frame, "0.3 1.9")
        self.assertEqual(frame, [SOROBAN, SUANPAN])
        self.assertEqual(standing, [(1, 2), (0, 3)])

    def test_lists_told_are_new_ones(self):
        frame = [SOROBAN, SUANPAN]
        first = read_standing(frame, "0.3 1.2")
        first[0] = "spoilt"
        first.append("spoilt")
        self.assertEqual(read_standing(frame, "0.3 1.2"), [(1, 2), (0, 3)])


if __name__ == "__main__":
    unittest.main()
