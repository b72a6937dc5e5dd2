import unittest

from beadframe.errors import NoRow
from beadframe.scripts import read_script
from tests.samples import NO_TEXTS

HEAD = ["frame a 1x5+4:10", "frame b 2x5+5:10 0x1+9:10", "frame c 0x1+1:2"]

WELL_WRITTEN = [
    "set a 0", "set b 7", "set c 123", "add a 0", "add b 45", "take a 0", "take c 1",
    "gain a b", "lose b c", "times a b c", "times a b b", "times c b a", "part a b 0", "part a b 12", "root a b",
    "copy c a", "clear a",
]

# each verb with words of the right kinds, which a word more or less, or a blank more, spoils
EACH_KIND = [
    "frame d 1x5+4:10", "set a 5", "add a 5", "take a 5", "gain a b", "lose a b", "times a b c", "part a b 5",
    "root a b", "copy a b", "clear a", "again 3", "end",
]


def script(rows):
    return "\n".join(rows)


class ScriptsTest(unittest.TestCase):
    def assert_read(self, rows):
        self.assertIsNotNone(read_script(script(rows)))

    def assert_no_row(self, at, rows):
        with self.assertRaises(NoRow) as taken:
            read_script(script(rows))
        self.assertEqual(taken.exception.row, at)

    def assert_spoilt(self, row):
        """The row alone, of otherwise well-written rows, is none."""
        self.assert_no_row(3, HEAD + [row])
        self.assert_no_row(4, HEAD + ["set a 1", row, "again 2", "add a 1", "end"])
        self.assert_no_row(4, HEAD + ["again 2", row, "end"])
        # the first row that is none is told
        self.assert_no_row(3, HEAD + [row, row, "nothing"])

    def assert_fine(self, row):
        self.assert_read(HEAD + [row])


class WellWrittenTest(ScriptsTest):
    def test_each_kind(self):
        for row in WELL_WRITTEN:
            self.assert_fine(row)
            self.assert_read(HEAD + ["again 2", row, row, "end", row])
        self.assert_read(HEAD + WELL_WRITTEN)

    def test_a_frame_alone(self):
        self.assert_read(["frame a 1x5+4:10"])

    def test_no_frame_at_all(self):
        self.assert_read(["again 0", "end"])
        self.assert_read(["again 5", "again 3", "end", "end"])

    def test_frames_between_other_rows(self):
        self.assert_read(["frame a 1x5+4:10", "set a 3", "again 2", "end", "frame b 1x5+4:10", "copy b a", "frame c 0x1+1:2"])

    def test_what_is_read_keeps_frames_in_their_order(self):
        told = read_script(script(["frame z 2x5+5:10 0x1+9:10", "set z 1", "frame a 0x1+1:2"]))
        self.assertEqual(list(told.frames.items()), [("z", [(0, 1, 9, 10), (2, 5, 5, 10)]), ("a", [(0, 1, 1, 2)])])


class WordsTest(ScriptsTest):
    def test_unknown_words(self):
        for row in ("", " ", "nothing", "Set a 5", "SET a 5", "sets a 5", "put 0 1", "frames d 1x5+4:10", "a", "5",
                    "end end", "set", "again", "frame", "shows a", "bears a", "tidy a", "sett a 5", "# set a 5"):
            self.assert_spoilt(row)

    def test_a_word_too_few(self):
        for row in EACH_KIND:
            if row != "end":
                self.assert_spoilt(row.rpartition(" ")[0])
                self.assert_spoilt(row.partition(" ")[0])

    def test_a_word_too_many(self):
        for row in EACH_KIND:
            for more in ("a", "b", "c", "5", "d", "end"):
                self.assert_no_row(3, HEAD + [row + " " + more])
        self.assert_no_row(4, HEAD + ["again 2", "end 2"])
        self.assert_no_row(4, HEAD + ["again 2", "end again"])

    def test_a_blank_more(self):
        for row in EACH_KIND:
            ahead = HEAD + (["again 2"] if row == "end" else [])
            for spoilt in (" " + row, row + " ", row.replace(" ", "  ", 1), row.replace(" ", "  ")):
                if spoilt != row:
                    self.assert_no_row(len(ahead), ahead + [spoilt])

    def test_other_signs_between(self):
        for row in EACH_KIND:
            for sign in ("\t", "\r", "\u00a0", "\u2003", ",", "; ", "_"):
                if " " in row:
                    self.assert_no_row(3, HEAD + [row.replace(" ", sign, 1)])
                self.assert_no_row(3, HEAD + [row + sign])

    def test_line_feeds_alone_part_rows(self):
        for between in ("\r\n", "\r", "; ", ";", "\n\n", "\n ", " \n", "\u2028", "\x0b", "\x0c", "\x85"):
            with self.assertRaises(NoRow):
                read_script("frame a 1x5+4:10" + between + "set a 5")

    def test_empty_rows(self):
        self.assert_no_row(0, [""] + HEAD)
        self.assert_no_row(2, HEAD[:2] + [""] + HEAD[2:])
        self.assert_no_row(3, HEAD + [""])

    def test_the_text_without_signs_is_one_empty_row(self):
        self.assert_no_row(0, [""])

    def test_no_texts(self):
        for thing in NO_TEXTS:
            with self.assertRaises(NoRow) as taken:
                read_script(thing)
            self.assertEqual(taken.exception.row, 0)


class NamesTest(ScriptsTest):
    NO_NAMES = ["", "A", "aB", "Ab", "a1", "1a", "1", "a_b", "a-b", "a.", "abcdefghi", "abcdefgh1", "\u00e4", "\u00df",
                "\u0430", "a\t", "'a'", "a;", "\u00b2", "z" * 100]

    def test_names_of_one_to_eight_small_letters(self):
        for name in ("a", "z", "ab", "abcdefgh", "zzzzzzzz", "set", "frame", "end", "again", "times"):
            self.assert_read([f"frame {name} 1x5+4:10", f"set {name} 5", f"clear {name}"])

    def test_no_names(self):
        for name in self.NO_NAMES:
            self.assert_no_row(0, [f"frame {name} 1x5+4:10"])
            for row in (f"set {name} 5", f"add {name} 5", f"take {name} 5", f"gain {name} b", f"gain a {name}",
                        f"lose {name} b", f"lose a {name}", f"times {name} b c", f"times a {name} c",
                        f"times a b {name}", f"part {name} b 5", f"part a {name} 5", f"root {name} b",
                        f"root a {name}", f"copy {name} b", f"copy a {name}", f"clear {name}"):
                self.assert_no_row(3, HEAD + [row])

    def test_names_told_twice(self):
        self.assert_no_row(1, ["frame a 1x5+4:10", "frame a 1x5+4:10"])
        self.assert_no_row(1, ["frame a 1x5+4:10", "frame a 0x1+9:10"])
        self.assert_no_row(3, HEAD + ["frame b 0x1+9:10"])
        self.assert_no_row(5, HEAD + ["again 1", "end", "frame c 0x1+9:10"])

    def test_names_not_yet_told(self):
        for row in ("set d 5", "add d 5", "take d 5", "gain d b", "gain a d", "lose d b", "lose a d", "times d b c",
                    "times a d c", "times a b d", "part d b 5", "part a d 5", "root d b", "root a d", "copy d b",
                    "copy a d", "clear d"):
            self.assert_spoilt(row)
            self.assert_no_row(3, HEAD + [row, "frame d 1x5+4:10"])
            self.assert_read(HEAD + ["frame d 1x5+4:10", row])
            self.assert_no_row(0, [row])

    def test_frames_that_must_be_unlike(self):
        for row in ("gain a a", "lose a a", "times a a b", "times a b a", "times a a a", "part a a 5", "root a a", "copy a a"):
            self.assert_spoilt(row)
        self.assert_fine("times a b b")
        self.assert_fine("times a c c")


class NumbersTest(ScriptsTest):
    NO_NUMBERS = ["", "00", "01", "007", "-1", "-0", "+1", "+0", "1.0", "1e3", "1_000", "1,000", "0x10", "ten", "a", "1a",
                  "\u0661", "\uff11", "\u00b2", " 1", "1" + "0" * 60, "9" * 61, "0" * 60, "0" + "1" * 59, "1" * 5000]

    def test_numbers(self):
        for number in ("0", "1", "9", "10", "123", "9" * 59, "9" * 60, "1" + "0" * 59):
            for row in ("set a ", "add a ", "take a ", "part a b "):
                self.assert_fine(row + number)

    def test_no_numbers(self):
        for number in self.NO_NUMBERS:
            for row in ("set a ", "add a ", "take a ", "part a b ", "again "):
                self.assert_no_row(3, HEAD + [row + number, "end"])

    def test_again(self):
        for turns in (0, 1, 2, 9, 10, 59, 60):
            self.assert_read(HEAD + [f"again {turns}", "end"])
        for turns in (61, 62, 99, 100, 600, 10 ** 59, 10 ** 60):
            self.assert_no_row(3, HEAD + [f"again {turns}", "end"])


class LayoutsTest(ScriptsTest):
    def test_one_to_twenty_layouts(self):
        for rods in range(1, 21):
            self.assert_read(["frame a" + " 1x5+4:10" * rods, "set a 5"])

    def test_none_and_more_than_twenty(self):
        self.assert_no_row(0, ["frame a", "set a 5"])
        for rods in (21, 22, 40):
            self.assert_no_row(0, ["frame a" + " 1x5+4:10" * rods, "set a 5"])

    def test_no_layouts(self):
        for layout in ("", "a", "5", "1x5+4", "1x5+4:11", "01x5+4:10", "7x5+4:10", "0x2+9:10", "1x5+3:9", "1x5+4:26",
                       "1x21+20:25", "1x5+25:10", "1X5+4:10", "0x1+8:10"):
            self.assert_no_row(3, HEAD + [f"frame d {layout}"])
            self.assert_no_row(3, HEAD + [f"frame d {layout} 1x5+4:10"])
            self.assert_no_row(3, HEAD + [f"frame d 1x5+4:10 {layout}"])
            self.assert_no_row(3, HEAD + ["frame d" + " 1x5+4:10" * 19 + f" {layout}"])

    def test_a_frame_that_is_refused_is_not_told(self):
        self.assert_no_row(0, ["frame a 1x5+4:11", "set a 5"])


class AgainTest(ScriptsTest):
    def test_frame_rows_within(self):
        self.assert_no_row(1, ["again 1", "frame a 1x5+4:10", "end"])
        self.assert_no_row(4, HEAD + ["again 0", "frame d 1x5+4:10", "end"])
        self.assert_no_row(5, HEAD + ["again 2", "again 3", "frame d 1x5+4:10", "end", "end"])
        self.assert_no_row(6, HEAD + ["again 2", "again 3", "end", "frame d 1x5+4:10", "end"])
        self.assert_read(HEAD + ["again 2", "end", "frame d 1x5+4:10"])

    def test_four_deep_and_five(self):
        for deep in range(1, 5):
            self.assert_read(HEAD + ["again 2"] * deep + ["add a 1"] + ["end"] * deep)
        self.assert_no_row(7, HEAD + ["again 2"] * 5 + ["add a 1"] + ["end"] * 5)
        self.assert_no_row(7, HEAD + ["again 0"] * 6 + ["end"] * 6)

    def test_side_by_side(self):
        self.assert_read(["again 2", "end"] * 30)
        self.assert_read(["again 2"] * 4 + ["end"] + ["again 2", "end"] * 6 + ["end"] * 3)
        self.assert_no_row(8, ["again 2"] * 4 + ["end", "again 2", "end", "again 2", "again 2"])

    def test_without_end(self):
        self.assert_no_row(1, ["again 2"])
        self.assert_no_row(5, HEAD + ["again 2", "add a 1"])
        self.assert_no_row(6, HEAD + ["again 2", "again 2", "end"])
        self.assert_no_row(4, ["again 1"] * 4)
        self.assert_no_row(3, ["again 1", "end", "again 1"])

    def test_a_row_that_is_none_goes_ahead_of_an_end_that_lacks(self):
        self.assert_no_row(1, ["again 2", "nothing"])
        self.assert_no_row(4, HEAD + ["again 2", "add d 1", "add a 1"])

    def test_end_without_again(self):
        self.assert_no_row(0, ["end"])
        self.assert_no_row(3, HEAD + ["end"])
        self.assert_no_row(5, HEAD + ["again 2", "end", "end"])


class RowsTest(ScriptsTest):
    def test_a_hundred_rows_and_one_more(self):
        rows = ["frame a 1x5+4:10"] + ["clear a"] * 150
        self.assert_read(rows[:99])
        self.assert_read(rows[:100])
        for more in (101, 102, 151):
            self.assert_no_row(100, rows[:more])

    def test_frame_again_and_end_rows_are_rows(self):
        self.assert_read(["again 2", "end"] * 50)
        self.assert_no_row(100, ["again 2", "end"] * 51)
        names = [first + second for first in "abcdefghijk" for second in "abcdefghijk"]
        frames = [f"frame {name} 1x5+4:10" for name in names]
        self.assert_read(frames[:100])
        self.assert_no_row(100, frames[:101])

    def test_which_is_told(self):
        rows = ["frame a 1x5+4:10"] + ["clear a"] * 150
        self.assert_no_row(99, rows[:99] + ["nothing"] + rows[:20])
        self.assert_no_row(100, rows[:100] + ["nothing"])
        # a hundred rows, the again without its end
        self.assert_no_row(100, rows[:99] + ["again 2"])
        self.assert_no_row(100, rows[:99] + ["again 2", "end"])


if __name__ == "__main__":
    unittest.main()
