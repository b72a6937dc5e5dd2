import itertools
import unittest

from beadframe.errors import NoLayout
from beadframe.layouts import count_of, full_worth, is_layout, is_whole, plain_of, read_layout, shown_layout
from tests.samples import LAYOUTS, PLAIN_TEN, SOROBAN, SUANPAN, all_rod_standings

NO_WHOLE_NUMBERS = [True, False, None, "", "1", "ten", 1.0, 2.5, b"1", [], [1], (), (1,), {}, {1: 1}, set(), object(), int]


def allowed(upper, worth, lower, base):
    """Point 4, written out once more in its own order."""
    return (
        0 <= upper <= 6 and 1 <= worth <= 20 and 0 <= lower <= 24 and 2 <= base <= 25
        and (worth == 1 if upper == 0 else lower >= worth - 1)
        and upper * worth + lower >= base - 1
    )


class WholeTest(unittest.TestCase):
    def test_ints_are_whole(self):
        for number in (0, 1, -1, 24, 10 ** 60, -(10 ** 60)):
            self.assertIs(is_whole(number), True, number)

    def test_truths_and_other_things_are_none(self):
        for thing in NO_WHOLE_NUMBERS:
            self.assertIs(is_whole(thing), False, repr(thing))


class IsLayoutTest(unittest.TestCase):
    def test_samples(self):
        for layout in LAYOUTS:
            self.assertIs(is_layout(layout), True, layout)

    def test_all_tuples_within_and_one_beyond_the_bounds(self):
        for upper, worth, lower, base in itertools.product(range(-1, 8), range(0, 22), range(-1, 26), range(1, 27)):
            told = is_layout((upper, worth, lower, base))
            if told is not allowed(upper, worth, lower, base):
                self.fail((upper, worth, lower, base, told))

    def test_each_bound(self):
        at = [
            (0, 1, 9, 10), (6, 1, 0, 7), (1, 1, 1, 3), (1, 20, 19, 25), (2, 1, 0, 3), (6, 4, 24, 25),
            (0, 1, 1, 2), (6, 20, 24, 2), (6, 20, 24, 25), (0, 1, 24, 25), (2, 5, 4, 15), (1, 5, 4, 10),
        ]
        beyond = [
            (-1, 1, 9, 2), (7, 1, 0, 7), (1, 0, 9, 10), (1, 21, 24, 10), (2, 1, -1, 2), (6, 4, 25, 25),
            (0, 1, 9, 1), (0, 1, 9, 0), (6, 20, 24, 26), (0, 2, 9, 10), (0, 5, 9, 10), (2, 5, 3, 10),
            (2, 5, 4, 16), (1, 5, 4, 11), (0, 1, 8, 10), (0, 1, 0, 2), (10 ** 60, 1, 9, 10),
        ]
        for layout in at:
            self.assertIs(is_layout(layout), True, layout)
        for layout in beyond:
            self.assertIs(is_layout(layout), False, layout)

    def test_other_things_in_the_place_of_a_number(self):
        for place in range(4):
            for thing in NO_WHOLE_NUMBERS:
                layout = list(SOROBAN)
                layout[place] = thing
                self.assertIs(is_layout(tuple(layout)), False, repr(layout))

    def test_truths_where_their_number_would_do(self):
        self.assertIs(is_layout((True, 5, 4, 10)), False)
        self.assertIs(is_layout((False, 1, 9, 10)), False)
        self.assertIs(is_layout((0, True, 9, 10)), False)
        self.assertIs(is_layout((0, 1, True, 2)), False)
        self.assertIs(is_layout((2, 1, False, 2)), False)

    def test_other_things_in_the_place_of_the_tuple(self):
        for thing in NO_WHOLE_NUMBERS + [0, 7, list(SOROBAN), "1x5+4:10", dict.fromkeys(SOROBAN), set(SOROBAN)]:
            self.assertIs(is_layout(thing), False, repr(thing))

    def test_tuples_of_other_lengths(self):
        for thing in ((), (1,), (1, 5), (1, 5, 4), (1, 5, 4, 10, 10), (1, 5, 4, 10, 0), SOROBAN + SOROBAN):
            self.assertIs(is_layout(thing), False, thing)


class WrittenTest(unittest.TestCase):
    def assert_refused(self, text):
        with self.assertRaises(NoLayout, msg=repr(text)):
            read_layout(text)

    def test_as_the_document_writes_them(self):
        self.assertEqual(read_layout("1x5+4:10"), (1, 5, 4, 10))
        self.assertEqual(read_layout("0x1+9:10"), (0, 1, 9, 10))
        self.assertEqual(shown_layout((1, 5, 4, 10)), "1x5+4:10")
        self.assertEqual(shown_layout((0, 1, 9, 10)), "0x1+9:10")
        self.assertEqual(shown_layout((6, 20, 24, 25)), "6x20+24:25")

    def test_a_read_layout_is_a_tuple_of_whole_numbers(self):
        layout = read_layout("2x5+5:10")
        self.assertIsInstance(layout, tuple)
        self.assertIs(is_layout(layout), True)

    def test_written_and_read_back(self):
        for upper, worth, lower, base in itertools.product(range(8), range(22), range(0, 26, 3), range(1, 27)):
            layout = (upper, worth, lower, base)
            text = f"{upper}x{worth}+{lower}:{base}"
            if allowed(*layout):
                self.assertEqual(shown_layout(layout), text)
                self.assertEqual(read_layout(text), layout)
            else:
                self.assert_refused(text)

    def test_a_nought_ahead(self):
        for text in ("01x5+4:10", "1x05+4:10", "1x5+04:10", "1x5+4:010", "00x1+9:10", "0x01+9:10", "2x1+00:3"):
            self.assert_refused(text)

    def test_one_sign_more_anywhere(self):
        whole = "1x5+4:10"
        for sign in " \t\n\r\v\f+-_.x:,a/\u00a0\u2028\u0665\u00b2\uff11\0":
            for place in range(len(whole) + 1):
                self.assert_refused(whole[:place] + sign + whole[place:])

    def test_one_sign_less_anywhere(self):
        whole = "1x5+4:10"
        for place in range(len(whole)):
            self.assert_refused(whole[:place] + whole[place + 1:])

    def test_other_signs_in_the_stead(self):
        for text in (
            "1X5+4:10", "1*5+4:10", "1x5-4:10", "1x5+4;10", "1:5+4x10", "1+5x4:10", "ax5+4:10", "1xb+4:10",
            "1x5+c:10", "1x5+4:d", "-1x5+4:10", "+1x5+4:10", "1x+5+4:10", "1x5+-4:10", "1x5+4:+10", "1x5+4:1_0",
            "\u0661x5+4:10", "1x\u0665+4:10", "1x5+\u0664:10", "1x5+4:\u0661\u0660", "1x5+4:\uff11\uff10", "\u00b9x5+4:10",
            "1.0x5+4:10", "1x5+4:1e1", "0x1+9:0xa", "(1, 5, 4, 10)",
        ):
            self.assert_refused(text)

    def test_parts_lacking_or_over(self):
        for text in (
            "", "x+:", "1", "1x5", "1x5+4", "1x5+4:", "1x5+:10", "1x+4:10", "x5+4:10", "5+4:10", "4:10", "1x5:10",
            "1x5+4:10:10", "1x5+4+4:10", "1x1x5+4:10", "1x5+4:10x", "1x5+4:10+4", "1x5+4:101x5+4:10",
            "1x5+4:10 1x5+4:10",
        ):
            self.assert_refused(text)

    def test_numbers_beyond_the_bounds(self):
        for text in (
            "7x1+9:10", "1x0+9:10", "1x21+24:10", "0x1+25:10", "0x1+9:1", "0x1+9:0", "6x20+24:26", "0x2+9:10",
            "2x5+3:10", "0x1+8:10", "1x5+4:11", "100x5+4:10", "1x500+4:10", "1x5+400:10", "1x5+4:100",
        ):
            self.assert_refused(text)

    def test_very_long_texts(self):
        for text in ("9" * 9000, "1x5+4:1" + "0" * 9000, "1" * 5000 + "x5+4:10", "x" * 9000, "0" * 9000 + "x1+9:10"):
            self.assert_refused(text)

    def test_what_is_no_text(self):
        for thing in (None, True, False, 0, 10, 1.5, b"1x5+4:10", (1, 5, 4, 10), ["1x5+4:10"], ("1x5+4:10",), {}, object()):
            self.assert_refused(thing)


class CountTest(unittest.TestCase):
    def test_full_worth(self):
        for layout, full in ((SOROBAN, 9), (SUANPAN, 15), (PLAIN_TEN, 9), ((0, 1, 24, 2), 24), ((6, 20, 24, 2), 144)):
            self.assertEqual(full_worth(layout), full)

    def test_full_worth_is_what_all_beads_count(self):
        for layout in LAYOUTS:
            greatest = max(count_of(layout, rod) for rod in all_rod_standings(layout))
            self.assertEqual(full_worth(layout), greatest)

    def test_count_of(self):
        self.assertEqual(count_of(SOROBAN, (0, 0)), 0)
        self.assertEqual(count_of(SOROBAN, (0, 3)), 3)
        self.assertEqual(count_of(SOROBAN, (1, 0)), 5)
        self.assertEqual(count_of(SUANPAN, (2, 5)), 15)
        self.assertEqual(count_of(SUANPAN, (1, 5)), 10)
        for layout in LAYOUTS:
            for high, low in all_rod_standings(layout):
                self.assertEqual(count_of(layout, (high, low)), high * layout[1] + low)

    def test_plain_of_by_hand(self):
        told = [plain_of(SUANPAN, number) for number in range(16)]
        self.assertEqual(told, [
            (0, 0), (0, 1), (0, 2), (0, 3), (0, 4), (1, 0), (1, 1), (1, 2),
            (1, 3), (1, 4), (2, 0), (2, 1), (2, 2), (2, 3), (2, 4), (2, 5),
        ])
        self.assertEqual(plain_of(PLAIN_TEN, 9), (0, 9))
        self.assertEqual(plain_of(SOROBAN, 9), (1, 4))

    def test_plain_of_every_number(self):
        for layout in LAYOUTS:
            for number in range(full_worth(layout) + 1):
                counting = [rod for rod in all_rod_standings(layout) if rod[0] * layout[1] + rod[1] == number]
                told = plain_of(layout, number)
                self.assertIsInstance(told, tuple)
                self.assertEqual(told, max(counting), (layout, number))


if __name__ == "__main__":
    unittest.main()
