import unittest

from beadframe.errors import NoMove, Stuck
from beadframe.moves import Down, Put, Take, Up
from beadframe.rows import done_all, read_row, rows_between, shown_row, way_back
from tests.samples import NO_TEXTS, SOROBAN, SUANPAN, all_rod_standings, sample_frames, standings_of

FRAME = [SOROBAN, SUANPAN, SUANPAN]
START = [(1, 2), (0, 5), (2, 0)]


def texts(row):
    return [move.shown() for move in row]


class WrittenRowTest(unittest.TestCase):
    def assert_refused(self, text):
        with self.assertRaises(NoMove, msg=repr(text)):
            read_row(text)

    def test_written_and_read_back(self):
        for text in ("put 3 1", "put 3 1; up 0 4", "take 0 1; take 0 1; down 12 24; up 99 99; put 0 6"):
            row = read_row(text)
            self.assertIsInstance(row, list)
            self.assertEqual(texts(row), text.split("; "))
            self.assertEqual(shown_row(row), text)

    def test_kinds_and_fields(self):
        row = read_row("up 1 2; down 3 4; put 5 6; take 7 8")
        self.assertEqual([(move.rod, move.beads) for move in row], [(1, 2), (3, 4), (5, 6), (7, 8)])
        for move, kind in zip(row, (Up, Down, Put, Take)):
            self.assertIsInstance(move, kind)

    def test_long_rows(self):
        row = [Up(at % 100, at % 99 + 1) for at in range(900)]
        self.assertEqual(texts(read_row(shown_row(row))), texts(row))

    def test_no_moves(self):
        self.assertEqual(shown_row([]), "")
        self.assertEqual(read_row(""), [])

    def test_wrong_signs_between(self):
        for between in (";", " ", "  ", " ; ", ";  ", "; ; ", ";; ", ", ", ": ", "\n", ";\n", "; \n", ";\t", "", " and ",
                        "\uff1b "):
            self.assert_refused(f"put 3 1{between}up 0 4")
            self.assert_refused(f"down 1 1; put 3 1{between}up 0 4; up 1 1")

    def test_signs_at_an_end(self):
        for text in ("; ", ";", " ", "put 3 1; ", "put 3 1;", "; put 3 1", " put 3 1", "put 3 1 ", "put 3 1\n", "\nput 3 1",
                     "put 3 1; up 0 4; ", "put 3 1; up 0 4\n"):
            self.assert_refused(text)

    def test_a_wrong_move_in_a_row(self):
        for wrong in ("put 3 0", "put 03 1", "put 100 1", "PUT 3 1", "put 3", "put 3 1 1", "push 3 1", "put 3 -1", ""):
            self.assert_refused(f"{wrong}; up 0 4; up 1 1")
            self.assert_refused(f"up 0 4; {wrong}; up 1 1")
            self.assert_refused(f"up 0 4; up 1 1; {wrong}")

    def test_what_is_no_text(self):
        for thing in NO_TEXTS + [[Put(3, 1)], ["put 3 1", "up 0 4"]]:
            self.assert_refused(thing)


class DoneAllTest(unittest.TestCase):
    def assert_stuck(self, text, rod, at, frame=FRAME, standing=START):
        kept = list(standing)
        with self.assertRaises(Stuck, msg=text) as taken:
            done_all(frame, standing, read_row(text))
        self.assertEqual((taken.exception.rod, taken.exception.at), (rod, at), text)
        self.assertEqual(standing, kept)

    def test_by_hand(self):
        self.assertEqual(done_all(FRAME, START, read_row("up 0 2; down 1 5; put 1 1; take 2 2")), [(1, 4), (1, 0), (0, 0)])
        self.assertEqual(done_all(FRAME, START, read_row("up 0 1; up 0 1; take 0 1; put 0 1")), [(1, 4), (0, 5), (2, 0)])

    def test_one_after_another(self):
        self.assertEqual(done_all(FRAME, START, read_row("down 1 5; up 1 5; down 1 1; up 1 1")), START)
        self.assert_stuck("up 1 5; down 1 5", 1, 0)

    def test_no_moves(self):
        told = done_all(FRAME, START, [])
        self.assertEqual(told, START)
        self.assertIsNot(told, START)

    def test_stuck_with_rod_and_at(self):
        self.assert_stuck("up 0 3", 0, 0)
        self.assert_stuck("up 0 2; up 0 1", 0, 1)
        self.assert_stuck("up 0 2; down 1 5; put 2 1; take 2 1", 2, 2)
        self.assert_stuck("up 0 1; down 1 5; put 1 2; put 1 1; up 9 1; up 99 1", 1, 3)
        self.assert_stuck("up 0 1; up 0 1; up 3 1", 3, 2)
        self.assert_stuck("up 99 1", 99, 0)
        self.assert_stuck("take 2 1; take 2 1; take 2 1; take 2 1", 2, 2)

    def test_stuck_at_each_place(self):
        for at in range(12):
            parts = ["up 0 1", "down 0 1"] * 6
            parts[at] = "take 1 1"
            self.assert_stuck("; ".join(parts), 1, at)

    def test_what_is_handed_in_stays(self):
        frame = list(FRAME)
        standing = list(START)
        row = read_row("up 0 2; down 1 5")
        told = done_all(frame, standing, row)
        told.append("spoilt")
        told[0] = "spoilt"
        self.assertEqual((frame, standing, shown_row(row)), (FRAME, START, "up 0 2; down 1 5"))
        self.assertEqual(done_all(frame, standing, row), [(1, 4), (0, 0), (2, 0)])


class WayBackTest(unittest.TestCase):
    def test_by_hand(self):
        row = read_row("up 0 2; down 1 5; put 1 1; take 2 2")
        self.assertEqual(shown_row(way_back(row)), "put 2 2; take 1 1; up 1 5; down 0 2")
        self.assertEqual(shown_row(row), "up 0 2; down 1 5; put 1 1; take 2 2")
        self.assertEqual(way_back([]), [])

    def test_back_of_back(self):
        row = read_row("up 0 2; up 0 1; down 1 5; put 1 1; take 2 2")
        self.assertEqual(texts(way_back(way_back(row))), texts(row))

    def test_the_first_standing_stands_again(self):
        self.assertEqual(done_all(FRAME, done_all(FRAME, START, read_row("up 0 2; down 0 4; put 1 1; up 0 4")),
                                  way_back(read_row("up 0 2; down 0 4; put 1 1; up 0 4"))), START)
        for frame in sample_frames():
            standings = standings_of(frame)
            for one, other in zip(standings, standings[1:]):
                row = rows_between(frame, one, other) + rows_between(frame, other, standings[0])
                reached = done_all(frame, one, row)
                self.assertEqual(done_all(frame, reached, way_back(row)), one)

    def test_the_list_told_is_a_new_one(self):
        row = read_row("up 0 2; down 1 5")
        told = way_back(row)
        told.append("spoilt")
        self.assertEqual(shown_row(way_back(row)), "up 1 5; down 0 2")
        empty = []
        self.assertIsNot(way_back(empty), empty)
        way_back(empty).append("spoilt")
        self.assertEqual(way_back(empty), [])


class BetweenTest(unittest.TestCase):
    def between(self, frame, one, other):
        return shown_row(rows_between(frame, one, other))

    def test_each_kind_alone(self):
        self.assertEqual(self.between([SUANPAN], [(2, 3)], [(0, 3)]), "take 0 2")
        self.assertEqual(self.between([SUANPAN], [(2, 3)], [(2, 1)]), "down 0 2")
        self.assertEqual(self.between([SUANPAN], [(1, 3)], [(2, 3)]), "put 0 1")
        self.assertEqual(self.between([SUANPAN], [(1, 3)], [(1, 5)]), "up 0 2")

    def test_both_kinds_of_beads(self):
        self.assertEqual(self.between([SUANPAN], [(2, 3)], [(1, 1)]), "take 0 1; down 0 2")
        self.assertEqual(self.between([SUANPAN], [(2, 3)], [(0, 4)]), "take 0 2; up 0 1")
        self.assertEqual(self.between([SUANPAN], [(0, 5)], [(2, 0)]), "down 0 5; put 0 2")
        self.assertEqual(self.between([SUANPAN], [(0, 0)], [(2, 5)]), "put 0 2; up 0 5")

    def test_several_rods_from_the_last_to_rod_0(self):
        self.assertEqual(
            self.between([SUANPAN] * 3, [(2, 3), (0, 5), (0, 0)], [(0, 4), (1, 0), (2, 5)]),
            "put 2 2; up 2 5; down 1 5; put 1 1; take 0 2; up 0 1",
        )
        self.assertEqual(self.between([SUANPAN] * 3, [(0, 0), (1, 1), (0, 0)], [(0, 1), (1, 1), (1, 0)]), "put 2 1; up 0 1")

    def test_a_standing_and_itself(self):
        for frame in sample_frames():
            for standing in standings_of(frame):
                self.assertEqual(rows_between(frame, standing, list(standing)), [])

    def test_every_pair_of_a_rods_standings(self):
        for layout in ((2, 3, 3, 9), (0, 1, 4, 5), (3, 1, 0, 4)):
            for one in all_rod_standings(layout):
                for other in all_rod_standings(layout):
                    wanted = []
                    if one[0] > other[0]:
                        wanted.append(f"take 0 {one[0] - other[0]}")
                    if one[1] > other[1]:
                        wanted.append(f"down 0 {one[1] - other[1]}")
                    if one[0] < other[0]:
                        wanted.append(f"put 0 {other[0] - one[0]}")
                    if one[1] < other[1]:
                        wanted.append(f"up 0 {other[1] - one[1]}")
                    row = rows_between([layout], [one], [other])
                    self.assertEqual(texts(row), wanted)
                    self.assertEqual(done_all([layout], [one], row), [other])

    def test_done_they_lead_to_the_other_standing(self):
        for frame in sample_frames():
            for one in standings_of(frame):
                for other in standings_of(frame):
                    row = rows_between(frame, one, other)
                    self.assertEqual(done_all(frame, one, row), other)
                    rods = [move.rod for move in row]
                    self.assertEqual(rods, sorted(rods, reverse=True))

    def test_new_lists_and_what_is_handed_in_stays(self):
        frame = [SUANPAN, SOROBAN]
        one = [(2, 3), (0, 0)]
        other = [(0, 4), (1, 1)]
        told = rows_between(frame, one, other)
        self.assertIsInstance(told, list)
        told.append("spoilt")
        self.assertEqual(self.between(frame, one, other), "put 1 1; up 1 1; take 0 2; up 0 1")
        rows_between(frame, one, one).append("spoilt")
        self.assertEqual(rows_between(frame, one, one), [])
        read_row("").append("spoilt")
        self.assertEqual(read_row(""), [])
        self.assertEqual((frame, one, other), ([SUANPAN, SOROBAN], [(2, 3), (0, 0)], [(0, 4), (1, 1)]))


if __name__ == "__main__":
    unittest.main()
