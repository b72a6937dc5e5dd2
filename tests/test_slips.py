import unittest

from beadframe.adding import adding_row
from beadframe.errors import Stuck
from beadframe.frames import tidy_of
from beadframe.moves import Down, Put, Take, Up, same_move
from beadframe.rows import done_all, read_row, rows_between, shown_row
from beadframe.slips import slips_of, with_slip
from tests.samples import SOROBAN, SUANPAN, all_standings, sample_frames, standings_of

KINDS = {"up": Up, "down": Down, "put": Put, "take": Take}


def shown_slips(slips):
    return [(at, word, None if move is None else move.shown()) for at, word, move in slips]


def told(frame, standing, text, other):
    return shown_slips(slips_of(frame, standing, read_row(text), other))


def slips_by_the_words(frame, standing, row, other):
    """Point 30: every slip tried, whatever the order, and sorted at the end."""
    found = []
    for at, move in enumerate(row):
        kind = KINDS[move.word()]
        tries = [("left", None), ("more", kind(move.rod, move.beads + 1))]
        if move.beads > 1:
            tries.append(("fewer", kind(move.rod, move.beads - 1)))
        if move.rod + 1 < len(frame):
            tries.append(("next", kind(move.rod + 1, move.beads)))
        if move.rod > 0:
            tries.append(("last", kind(move.rod - 1, move.beads)))
        for word, stead in tries:
            changed = list(row)
            changed[at:at + 1] = [] if stead is None else [stead]
            try:
                if done_all(frame, standing, changed) == other:
                    found.append((at, word, None if stead is None else stead.shown()))
            except Stuck:
                pass
    return sorted(found, key=lambda slip: slip[:2])


class SlipsTest(unittest.TestCase):
    frame = [SUANPAN] * 3
    clear = [(0, 0)] * 3

    def test_each_word(self):
        row = "up 1 2; put 1 1"
        self.assertEqual(told(self.frame, self.clear, row, [(0, 0), (0, 2), (0, 0)]), [(1, "left", None)])
        self.assertEqual(told(self.frame, self.clear, row, [(0, 0), (1, 0), (0, 0)]), [(0, "left", None)])
        self.assertEqual(told(self.frame, self.clear, row, [(0, 0), (1, 3), (0, 0)]), [(0, "more", "up 1 3")])
        self.assertEqual(told(self.frame, self.clear, row, [(0, 0), (1, 1), (0, 0)]), [(0, "fewer", "up 1 1")])
        self.assertEqual(told(self.frame, self.clear, row, [(0, 0), (1, 0), (0, 2)]), [(0, "next", "up 2 2")])
        self.assertEqual(told(self.frame, self.clear, row, [(0, 2), (1, 0), (0, 0)]), [(0, "last", "up 0 2")])
        self.assertEqual(told(self.frame, self.clear, row, [(1, 0), (0, 2), (0, 0)]), [(1, "last", "put 0 1")])

    def test_the_slip_s_move_keeps_its_kind(self):
        full = [(2, 5)] * 3
        for word, kind, beads in (("up", Up, 2), ("put", Put, 1)):
            slips = slips_of(self.frame, self.clear, [kind(1, beads)], kind(2, beads).done(self.frame, self.clear))
            self.assertEqual(shown_slips(slips), [(0, "next", f"{word} 2 {beads}")])
            self.assertIsInstance(slips[0][2], kind)
        for word, kind, beads in (("down", Down, 2), ("take", Take, 2)):
            slips = slips_of(self.frame, full, [kind(1, beads)], kind(1, beads - 1).done(self.frame, full))
            self.assertEqual(shown_slips(slips), [(0, "fewer", f"{word} 1 {beads - 1}")])
            self.assertIsInstance(slips[0][2], kind)

    def test_kinds(self):
        slips = slips_of(self.frame, self.clear, [Up(0, 2)], [(0, 1), (0, 0), (0, 0)])
        self.assertIsInstance(slips, list)
        self.assertIsInstance(slips[0], tuple)
        self.assertEqual((len(slips), slips[0][:2]), (1, (0, "fewer")))
        self.assertTrue(same_move(slips[0][2], Up(0, 1)))

    def test_several_places(self):
        self.assertEqual(
            told(self.frame, self.clear, "up 0 1; up 0 1; up 0 1", [(0, 2), (0, 0), (0, 0)]),
            [(0, "left", None), (1, "left", None), (2, "left", None)],
        )
        self.assertEqual(
            told(self.frame, self.clear, "up 0 2; up 0 1", [(0, 2), (0, 0), (0, 0)]),
            [(0, "fewer", "up 0 1"), (1, "left", None)],
        )

    def test_sorted_by_place(self):
        self.assertEqual(
            told(self.frame, [(0, 1)] * 3, "up 1 2; down 1 1", [(0, 1)] * 3),
            [(0, "fewer", "up 1 1"), (1, "more", "down 1 2")],
        )
        self.assertEqual(
            told(self.frame, [(0, 1), (0, 2), (0, 1)], "up 0 1; down 1 1; up 1 1; up 1 2", [(0, 2), (0, 3), (0, 1)]),
            [(1, "more", "down 1 2"), (2, "left", None), (3, "fewer", "up 1 1")],
        )

    def test_a_move_of_one_bead_has_no_fewer(self):
        self.assertEqual(told(self.frame, self.clear, "up 0 1", self.clear), [(0, "left", None)])
        self.assertEqual(told(self.frame, self.clear, "up 0 2", [(0, 1), (0, 0), (0, 0)]), [(0, "fewer", "up 0 1")])

    def test_rod_0_has_none_before_and_the_last_rod_none_next(self):
        self.assertEqual(told(self.frame, self.clear, "up 0 1", [(0, 0), (0, 1), (0, 0)]), [(0, "next", "up 1 1")])
        self.assertEqual(told(self.frame, self.clear, "up 0 1", [(0, 0), (0, 0), (0, 1)]), [])
        self.assertEqual(told(self.frame, self.clear, "up 2 1", [(0, 0), (0, 1), (0, 0)]), [(0, "last", "up 1 1")])
        self.assertEqual(told(self.frame, self.clear, "up 2 1", [(0, 1), (0, 0), (0, 0)]), [])
        self.assertEqual(told([SUANPAN], [(0, 0)], "up 0 1", [(0, 0)]), [(0, "left", None)])

    def test_rows_that_can_not_be_done_without_the_slip(self):
        frame = [SOROBAN, SOROBAN]
        self.assertEqual(told(frame, [(0, 3), (0, 0)], "up 0 2", [(0, 4), (0, 0)]), [(0, "fewer", "up 0 1")])
        self.assertEqual(told(frame, [(0, 4), (0, 0)], "up 0 1; put 0 1", [(1, 4), (0, 0)]), [(0, "left", None)])
        self.assertEqual(told(frame, [(0, 4), (0, 0)], "up 0 1; put 0 1", [(1, 4), (0, 1)]), [(0, "next", "up 1 1")])
        # a rod that the frame hasn't
        self.assertEqual(told(frame, [(0, 0), (0, 0)], "up 2 1", [(0, 0), (0, 1)]), [(0, "last", "up 1 1")])
        self.assertEqual(told(frame, [(0, 0), (0, 0)], "up 2 1", [(0, 0), (0, 0)]), [(0, "left", None)])
        self.assertEqual(told(frame, [(0, 0), (0, 0)], "up 3 1", [(0, 0), (0, 1)]), [])

    def test_rows_that_can_not_be_done_with_the_slip(self):
        frame = [SOROBAN, SOROBAN]
        # without the first move the second one finds no beads
        self.assertEqual(
            told(frame, [(0, 0), (0, 0)], "up 0 2; down 0 1", [(0, 0), (0, 0)]),
            [(0, "fewer", "up 0 1"), (1, "more", "down 0 2")],
        )
        self.assertEqual(told(frame, [(0, 4), (0, 0)], "put 0 1", [(2, 4), (0, 0)]), [])

    def test_a_row_that_leads_there_without_a_slip(self):
        self.assertEqual(told(self.frame, self.clear, "up 0 1", [(0, 1), (0, 0), (0, 0)]), [])
        self.assertEqual(told(self.frame, [(0, 1)] * 3, "up 0 1; down 0 1", [(0, 1)] * 3), [])

    def test_no_slips(self):
        self.assertEqual(told(self.frame, self.clear, "", self.clear), [])
        self.assertEqual(told(self.frame, self.clear, "", [(0, 1), (0, 0), (0, 0)]), [])
        self.assertEqual(told(self.frame, self.clear, "up 0 1; up 1 1; up 2 1", [(2, 5)] * 3), [])

    def test_just_the_other_standing_and_not_just_its_number(self):
        # 10 on rod 0 alone, and on rod 1
        self.assertEqual(told(self.frame, self.clear, "put 0 2; up 0 1", [(2, 0), (0, 0), (0, 0)]), [(1, "left", None)])
        self.assertEqual(told(self.frame, self.clear, "put 0 2; up 0 1", [(0, 0), (0, 1), (0, 0)]), [])

    def test_all_standings_of_a_small_frame(self):
        frame = [(1, 2, 2, 4), (0, 1, 3, 3), (2, 1, 1, 2)]
        rows = ["up 1 2; down 1 1; put 0 1", "up 0 2; put 0 1; up 1 1; take 0 1; up 2 1; put 2 2", "down 0 1; down 1 2; up 2 1"]
        found = {}
        for text in rows:
            row = read_row(text)
            for standing in all_standings(frame)[::5]:
                for other in all_standings(frame):
                    wanted = slips_by_the_words(frame, standing, row, other)
                    self.assertEqual(shown_slips(slips_of(frame, standing, row, other)), wanted)
                    for slip in wanted:
                        found[slip[1]] = True
        self.assertEqual(sorted(found), ["fewer", "last", "left", "more", "next"])

    def test_sums_with_a_slip(self):
        for frame in sample_frames()[1::9]:
            start = tidy_of(frame, 0)
            goal = standings_of(frame)[3]
            row = rows_between(frame, start, goal)
            for at in range(0, len(row), 3):
                for slip in [(at, "left", None), (at, "more", type(row[at])(row[at].rod, row[at].beads + 1))]:
                    try:
                        other = done_all(frame, start, with_slip(row, slip))
                    except Stuck:
                        continue
                    found = slips_of(frame, start, row, other)
                    self.assertIn(slip[:2], [one[:2] for one in found])
                    self.assertEqual(shown_slips(found), slips_by_the_words(frame, start, row, other))

    def test_a_hundred_and_twenty_moves(self):
        frame = [SOROBAN] * 20
        clear = [(0, 0)] * 20
        full = [(1, 4)] * 20
        row = rows_between(frame, clear, full) + rows_between(frame, full, clear) + rows_between(frame, clear, full)
        self.assertEqual(len(row), 120)
        reached = done_all(frame, clear, row[:110] + row[111:])
        found = shown_slips(slips_of(frame, clear, row, reached))
        self.assertEqual(found, slips_by_the_words(frame, clear, row, reached))
        self.assertEqual(found, [(110, "left", None)])

    def test_what_is_handed_in_stays(self):
        frame = [SUANPAN] * 2
        standing = [(0, 1), (0, 0)]
        other = [(0, 2), (0, 0)]
        row = read_row("up 0 1; up 1 1")
        kept = shown_row(row)
        slips = slips_of(frame, standing, row, other)
        self.assertEqual(shown_slips(slips), [(1, "left", None)])
        slips.append("spoilt")
        self.assertEqual(shown_slips(slips_of(frame, standing, row, other)), [(1, "left", None)])
        self.assertEqual((frame, standing, other, shown_row(row)), ([SUANPAN] * 2, [(0, 1), (0, 0)], [(0, 2), (0, 0)], kept))


class WithSlipTest(unittest.TestCase):
    row = read_row("up 0 1; put 1 1; down 0 2")

    def test_left_out(self):
        for at, shown in enumerate(("put 1 1; down 0 2", "up 0 1; down 0 2", "up 0 1; put 1 1")):
            self.assertEqual(shown_row(with_slip(self.row, (at, "left", None))), shown)

    def test_in_its_stead(self):
        self.assertEqual(shown_row(with_slip(self.row, (0, "more", Up(0, 2)))), "up 0 2; put 1 1; down 0 2")
        self.assertEqual(shown_row(with_slip(self.row, (1, "next", Put(2, 1)))), "up 0 1; put 2 1; down 0 2")
        self.assertEqual(shown_row(with_slip(self.row, (2, "fewer", Down(0, 1)))), "up 0 1; put 1 1; down 0 1")
        self.assertEqual(shown_row(with_slip([Up(1, 1)], (0, "last", Up(0, 1)))), "up 0 1")
        self.assertEqual(with_slip([Up(1, 1)], (0, "left", None)), [])

    def test_the_slips_told_lead_there(self):
        frame = [SUANPAN] * 3
        start = [(0, 3), (1, 1), (0, 2)]
        row = adding_row(frame, start, 168)
        wrong = done_all(frame, start, row[:1] + row[2:])
        slips = slips_of(frame, start, row, wrong)
        self.assertIn((1, "left"), [slip[:2] for slip in slips])
        for slip in slips:
            self.assertEqual(done_all(frame, start, with_slip(row, slip)), wrong)

    def test_what_is_handed_in_stays(self):
        row = read_row("up 0 1; up 1 1")
        told = with_slip(row, (0, "left", None))
        self.assertIsInstance(told, list)
        told.append("spoilt")
        with_slip(row, (1, "more", Up(1, 2))).clear()
        self.assertEqual(shown_row(row), "up 0 1; up 1 1")


if __name__ == "__main__":
    unittest.main()
