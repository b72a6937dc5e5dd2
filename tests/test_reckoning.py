import unittest

from beadframe.errors import Spoilt, TooLong
from beadframe.reckoning import reckoned_of
from beadframe.scripts import read_script
from tests.samples import random_scripts, reckoned_plainly, rows_in_turn

# three rods of ten, two of ten whose last counts up to 15, four of two
HEAD = ["frame a 1x5+4:10 1x5+4:10 1x5+4:10", "frame b 2x5+5:10 2x5+5:10", "frame c 0x1+1:2 0x1+1:2 0x1+1:2 0x1+1:2"]


def reckoned(rows):
    return reckoned_of(read_script("\n".join(rows)))


class ReckoningTest(unittest.TestCase):
    def assert_comes_to(self, a, b, c, rows):
        told = reckoned(HEAD + rows)
        self.assertIsInstance(told, dict)
        self.assertEqual(list(told.items()), [("a", a), ("b", b), ("c", c)])

    def assert_spoilt(self, row, why, rows):
        with self.assertRaises(Spoilt) as taken:
            reckoned(HEAD + rows)
        self.assertEqual((taken.exception.row, taken.exception.why), (row, why))

    def assert_too_long(self, rows):
        with self.assertRaises(TooLong):
            reckoned(HEAD + rows)


class EachKindTest(ReckoningTest):
    def test_no_steps(self):
        self.assert_comes_to(0, 0, 0, [])
        self.assertEqual(reckoned(["frame a 1x5+4:10"]), {"a": 0})
        self.assertEqual(reckoned(["again 7", "end"]), {})

    def test_set(self):
        self.assert_comes_to(999, 159, 15, ["set a 999", "set b 159", "set c 15"])
        self.assert_comes_to(7, 0, 0, ["set a 999", "set a 7"])
        self.assert_comes_to(0, 0, 0, ["set a 999", "set a 0"])

    def test_add_and_take(self):
        self.assert_comes_to(12, 0, 0, ["add a 5", "add a 7"])
        self.assert_comes_to(2, 0, 0, ["add a 7", "take a 5"])
        self.assert_comes_to(0, 0, 0, ["add a 7", "take a 7", "add b 0", "take b 0"])

    def test_gain_and_lose(self):
        self.assert_comes_to(107, 100, 0, ["set a 7", "set b 100", "gain a b"])
        self.assert_comes_to(93, 7, 0, ["set a 100", "set b 7", "lose a b"])
        self.assert_comes_to(0, 7, 0, ["set a 7", "set b 7", "lose a b"])

    def test_times(self):
        self.assert_comes_to(85, 12, 7, ["set a 1", "set b 12", "set c 7", "times a b c"])
        self.assert_comes_to(145, 12, 0, ["set a 1", "set b 12", "times a b b"])
        self.assert_comes_to(1, 12, 0, ["set a 1", "set b 12", "times a b c", "times a c b"])

    def test_part(self):
        # the quotient comes in the first one's stead, the other one keeps the rest
        self.assert_comes_to(14, 2, 0, ["set a 999", "set b 100", "part a b 7"])
        self.assert_comes_to(0, 100, 0, ["set a 999", "set b 100", "part a b 101"])
        self.assert_comes_to(100, 0, 0, ["set a 999", "set b 100", "part a b 1"])
        self.assert_comes_to(0, 100, 0, ["set a 3", "set b 100", "part a b " + "9" * 60])
        self.assert_comes_to(3, 0, 14, ["set a 73", "part c a 5"])

    def test_root(self):
        self.assert_comes_to(12, 144, 0, ["set a 999", "set b 144", "root a b"])
        self.assert_comes_to(11, 143, 0, ["set b 143", "root a b"])
        self.assert_comes_to(0, 0, 0, ["set a 999", "root a b"])

    def test_copy_and_clear(self):
        self.assert_comes_to(44, 44, 0, ["set a 5", "set b 44", "copy a b"])
        self.assert_comes_to(0, 44, 0, ["set a 5", "set b 44", "clear a", "clear c"])

    def test_numbers_of_sixty_figures(self):
        self.assert_spoilt(3, "great", ["set a " + "9" * 60])
        self.assert_spoilt(3, "great", ["add a " + "9" * 60])
        self.assert_spoilt(3, "below", ["take a " + "9" * 60])
        rows = ["frame x" + " 6x20+24:25" * 20, "frame y" + " 6x20+24:25" * 20, "set x " + "8" * 28]
        self.assertEqual(reckoned(rows + ["root y x"]), {"x": int("8" * 28), "y": 94280904158206})


class AgainTest(ReckoningTest):
    def test_turns(self):
        self.assert_comes_to(21, 0, 0, ["again 3", "add a 7", "end"])
        self.assert_comes_to(60, 0, 0, ["again 60", "add a 1", "end"])
        self.assert_comes_to(7, 0, 0, ["again 1", "add a 7", "end"])

    def test_no_turns(self):
        self.assert_comes_to(5, 0, 0, ["add a 5", "again 0", "add a 7", "take a 100", "part a b 0", "set a 1000", "end"])

    def test_no_rows(self):
        self.assert_comes_to(5, 0, 0, ["again 60", "end", "add a 5", "again 0", "end"])

    def test_rows_in_turn(self):
        # 1, 3, 7: doubled and one more
        self.assert_comes_to(7, 7, 0, ["again 3", "gain a b", "add a 1", "copy b a", "end"])
        self.assert_comes_to(55, 89, 0, ["set b 1", "again 5", "gain a b", "gain b a", "end"])

    def test_within_one_another(self):
        self.assert_comes_to(6, 2, 0, ["again 2", "add b 1", "again 3", "add a 1", "end", "end"])
        self.assert_comes_to(2 * 3 * 2 * 3, 0, 0, ["again 2", "again 3", "again 2", "again 3", "add a 1"] + ["end"] * 4)
        self.assert_comes_to(0, 0, 0, ["again 2", "again 3", "again 0", "again 3", "add a 1"] + ["end"] * 4)
        self.assert_comes_to(8, 0, 0, ["again 2", "again 1", "add a 1", "end", "again 3", "add a 1", "end", "end"])


class FramesTest(ReckoningTest):
    def test_between_other_rows(self):
        rows = ["frame z 1x5+4:10", "set z 7", "frame m 0x1+9:10", "copy m z", "again 2", "end", "frame b 0x1+24:2"]
        self.assertEqual(list(reckoned(rows + ["gain b m"]).items()), [("z", 7), ("m", 7), ("b", 7)])

    def test_from_the_last_rod_to_rod_0(self):
        rows = ["frame z 0x1+24:25 0x1+1:2"]
        self.assertEqual(reckoned(rows + ["set z 49"]), {"z": 49})
        with self.assertRaises(Spoilt):
            reckoned(rows + ["set z 50"])
        rows = ["frame z 0x1+1:2 0x1+24:25", "frame y 2x5+5:10 0x1+1:2"]
        self.assertEqual(reckoned(rows + ["set z 49", "set y 31"]), {"z": 49, "y": 31})
        with self.assertRaises(Spoilt):
            reckoned(rows + ["set y 32"])


class SpoiltTest(ReckoningTest):
    def test_great(self):
        self.assert_spoilt(3, "great", ["set a 1000"])
        self.assert_spoilt(3, "great", ["set b 160"])
        self.assert_spoilt(3, "great", ["set c 16"])
        self.assert_spoilt(4, "great", ["set a 999", "add a 1"])
        self.assert_spoilt(5, "great", ["set a 999", "set c 1", "gain a c"])
        self.assert_spoilt(5, "great", ["set a 100", "set b 100", "times b a a"])
        self.assert_spoilt(5, "great", ["set b 40", "set c 4", "gain c b"])
        self.assert_spoilt(4, "great", ["set a 16", "part c a 1"])
        self.assert_spoilt(4, "great", ["set a 256", "root c a"])
        self.assert_comes_to(255, 0, 15, ["set a 255", "root c a"])
        self.assert_spoilt(4, "great", ["set a 16", "copy c a"])

    def test_below(self):
        self.assert_spoilt(3, "below", ["take a 1"])
        self.assert_spoilt(4, "below", ["set a 5", "take a 6"])
        self.assert_spoilt(5, "below", ["set a 5", "set b 6", "lose a b"])

    def test_divisor(self):
        self.assert_spoilt(3, "divisor", ["part a b 0"])
        self.assert_spoilt(4, "divisor", ["set b 100", "part c b 0"])

    def test_the_divisor_goes_first(self):
        # no quotient is told that c could bear
        self.assert_spoilt(4, "divisor", ["set a 999", "part c a 0"])

    def test_the_first_row_in_the_order_in_which_they_are_done(self):
        self.assert_spoilt(3, "below", ["take a 1", "set a 1000", "part a b 0"])
        self.assert_spoilt(4, "great", ["set a 1", "set a 1000", "take a 100"])
        self.assert_spoilt(7, "divisor", ["again 0", "take a 1", "end", "add a 1", "part a b 0", "take b 1"])

    def test_within_again(self):
        self.assert_spoilt(4, "great", ["again 60", "add c 1", "end"])
        self.assert_spoilt(4, "below", ["again 1", "take a 1", "end"])
        # the second turn's first row goes ahead of the first turn's third, which is never done
        self.assert_spoilt(5, "below", ["set a 3", "again 3", "take a 2", "add b 1", "end", "part a b 0"])
        self.assert_spoilt(6, "divisor", ["again 2", "add a 1", "again 2", "part b a 0", "end", "end"])
        self.assert_spoilt(5, "great", ["again 2", "again 60", "add c 1", "end", "end"])


class TooLongTest(ReckoningTest):
    def test_two_thousand_and_one_more(self):
        # 40 turns of 49 rows, each turn one more
        rows = ["again 40"] + ["add a 0"] * 49 + ["end"]
        self.assert_comes_to(0, 0, 0, rows)
        self.assert_too_long(rows + ["add a 0"])
        self.assert_too_long(["add a 0"] + rows)
        self.assert_comes_to(0, 0, 0, rows + ["again 0", "add a 0", "end"])

    def test_frame_again_and_end_rows_do_not_count(self):
        rows = ["again 40"] + ["add a 0"] * 49 + ["end"] + ["again 0", "end"] * 5
        self.assertEqual(reckoned(HEAD + rows + ["frame d 1x5+4:10"]), {"a": 0, "b": 0, "c": 0, "d": 0})

    def test_turns_without_rows_count(self):
        # 60 times 33 and 20 are two thousand
        within = ["again 32", "end"]
        self.assert_comes_to(0, 0, 0, ["again 60"] + within + ["end", "again 20", "end"])
        self.assert_too_long(["again 60"] + within + ["end", "again 21", "end"])
        self.assert_too_long(["again 60"] + within + ["end", "again 20", "end", "clear a"])
        self.assert_comes_to(0, 0, 0, ["again 60"] + within + ["end", "again 19", "end", "clear a"])

    def test_within_one_another(self):
        # 9 times one more than 21 are 198, with the row behind it 199, and 10 times one more than this two thousand
        rows = ["again 10", "again 9", "again 21", "end", "end", "clear b", "end"]
        self.assert_comes_to(0, 0, 0, rows)
        self.assert_too_long(rows + ["clear b"])
        self.assert_too_long(["again 10", "again 9", "again 22", "end", "end", "clear b", "end"])

    def test_great_numbers_of_turns_that_are_not_done(self):
        within = ["again 60"] * 3 + ["add a 1"] * 40 + ["end"] * 3
        self.assert_too_long(["again 60"] + within + ["end"])
        self.assert_too_long(within)
        self.assert_comes_to(0, 0, 0, ["again 0"] + within + ["end"])
        self.assert_too_long(["again 1"] + within + ["end"])
        self.assert_too_long(["again 60"] * 4 + ["end"] * 4)

    def test_ahead_of_rows_that_can_not_be_done(self):
        within = ["again 60", "again 60", "add a 1", "end", "end"]
        self.assert_too_long(["take a 1"] + within)
        self.assert_too_long(["part a b 0"] + within)
        self.assert_too_long(["set a 1000"] + within)
        self.assert_too_long(["again 60", "again 60", "take a 1", "end", "end"])


class ScriptsTest(ReckoningTest):
    def test_by_plain_reckoning(self):
        spoilt = {}
        for rows in random_scripts():
            wanted = reckoned_plainly(rows)
            if isinstance(wanted, tuple):
                with self.assertRaises(Spoilt) as taken:
                    reckoned(rows)
                self.assertEqual((taken.exception.row, taken.exception.why), wanted)
                spoilt[wanted[1]] = True
            else:
                self.assertEqual(list(reckoned(rows).items()), wanted)
        # the samples are worth something only if all of these come
        self.assertEqual(sorted(spoilt), ["below", "divisor", "great"])

    def test_the_samples_stay_short(self):
        self.assertLess(max(len(rows_in_turn(rows)) for rows in random_scripts()), 500)

    def test_asked_twice(self):
        script = read_script("\n".join(HEAD + ["again 3", "add a 7", "end", "part b a 4"]))
        told = reckoned_of(script)
        kept = dict(told)
        told["a"] = 99
        told["more"] = 1
        self.assertEqual(reckoned_of(script), kept)


if __name__ == "__main__":
    unittest.main()
