import unittest

from beadframe.adding import adding_row, taking_row
from beadframe.errors import Spoilt, TooLong
from beadframe.frames import borne_by, is_tidy, tidy_of
from beadframe.making import made_of, replayed_by
from beadframe.parting import quotient_rows, root_row
from beadframe.products import product_row
from beadframe.reckoning import reckoned_of
from beadframe.rows import done_all, rows_between
from beadframe.scripts import read_script
from tests.samples import layouts_in, random_scripts, reckoned_plainly, rows_in_turn

HEAD = ["frame a 1x5+4:10 1x5+4:10 1x5+4:10", "frame b 2x5+5:10 2x5+5:10", "frame c 0x1+1:2 0x1+1:2 0x1+1:2 0x1+1:2"]


def read(rows):
    return read_script("\n".join(rows))


def shown(made):
    return [(name, move.shown()) for name, move in made]


def moves_by_the_words(rows):
    """Point 29, row by row, with the standings that the moves lead to; the rows that can be done alone."""
    frames = {row.split(" ")[1]: layouts_in(row) for row in rows if row.startswith("frame ")}
    stands = {name: [(0, 0) for layout in frame] for name, frame in frames.items()}
    told = []

    def push(name, row):
        stands[name] = done_all(frames[name], stands[name], row)
        told.extend((name, move.shown()) for move in row)

    def push_to(name, number):
        push(name, rows_between(frames[name], stands[name], tidy_of(frames[name], number)))

    def borne(name):
        return borne_by(frames[name], stands[name])

    for at in rows_in_turn(rows):
        verb, name, *words = rows[at].split(" ")
        here = (frames[name], stands[name])
        if verb == "set":
            push_to(name, int(words[0]))
        elif verb == "copy":
            push_to(name, borne(words[0]))
        elif verb == "add":
            push(name, adding_row(*here, int(words[0])))
        elif verb == "gain":
            push(name, adding_row(*here, borne(words[0])))
        elif verb == "take":
            push(name, taking_row(*here, int(words[0])))
        elif verb == "lose":
            push(name, taking_row(*here, borne(words[0])))
        elif verb == "times":
            push(name, product_row(*here, borne(words[0]), borne(words[1])))
        elif verb == "part":
            push_to(name, 0)
            first, second = quotient_rows(frames[words[0]], stands[words[0]], frames[name], int(words[1]))
            push(words[0], first)
            push(name, second)
        elif verb == "root":
            push_to(name, 0)
            push(name, root_row(frames[words[0]], stands[words[0]], frames[name]))
        else:
            push_to(name, 0)
    return told


class MadeTest(unittest.TestCase):
    def assert_made(self, rows, wanted):
        made = made_of(read(HEAD + rows))
        self.assertEqual(shown(made), wanted)

    def assert_spoilt(self, row, why, rows):
        with self.assertRaises(Spoilt) as taken:
            made_of(read(HEAD + rows))
        self.assertEqual((taken.exception.row, taken.exception.why), (row, why))

    def test_kinds(self):
        made = made_of(read(HEAD + ["set a 1"]))
        self.assertIsInstance(made, list)
        self.assertIsInstance(made[0], tuple)
        self.assertEqual((len(made), made[0][0], made[0][1].rod, made[0][1].beads), (1, "a", 0, 1))

    def test_no_moves(self):
        self.assert_made([], [])
        self.assert_made(["set a 0", "add a 0", "take a 0", "gain a b", "clear a", "copy a b", "part a b 5"], [])
        self.assertEqual(made_of(read(["again 2", "end"])), [])

    def test_set_copy_and_clear(self):
        self.assert_made(["set a 307"], [("a", "up 2 3"), ("a", "put 0 1"), ("a", "up 0 2")])
        # from what stands there, not from a clear frame
        self.assert_made(["set a 3", "set a 5"], [("a", "up 0 3"), ("a", "down 0 3"), ("a", "put 0 1")])
        self.assert_made(["set b 12", "copy a b"], [("b", "up 1 1"), ("b", "up 0 2"), ("a", "up 1 1"), ("a", "up 0 2")])
        self.assert_made(["set a 6", "clear a"], [("a", "put 0 1"), ("a", "up 0 1"), ("a", "take 0 1"), ("a", "down 0 1")])

    def test_add_and_take(self):
        nine = [("a", "put 0 1"), ("a", "up 0 4")]
        ten = [("a", "up 1 1"), ("a", "take 0 1"), ("a", "down 0 4")]
        self.assert_made(["set a 9", "add a 1"], nine + ten)
        self.assert_made(["set a 9", "set c 1", "gain a c"], nine + [("c", "up 0 1")] + ten)
        back = [("a", "down 1 1"), ("a", "put 0 1"), ("a", "up 0 4")]
        self.assert_made(["set a 10", "take a 1"], [("a", "up 1 1")] + back)
        self.assert_made(["set a 10", "set c 1", "lose a c"], [("a", "up 1 1"), ("c", "up 0 1")] + back)

    def test_add_is_not_set(self):
        # 8 and 15 by the old rules: rod 1 gets its one, and then the one carried from rod 0
        self.assert_made(
            ["set a 8", "add a 15"],
            [("a", "put 0 1"), ("a", "up 0 3"), ("a", "up 1 1"), ("a", "up 1 1"), ("a", "take 0 1")],
        )

    def test_times(self):
        # 19 times 6 by the digits of 19: 60, then 54
        self.assert_made(
            ["set b 19", "set c 6", "times a b c"],
            [("b", "up 1 1"), ("b", "put 0 1"), ("b", "up 0 4"), ("c", "up 2 1"), ("c", "up 1 1"), ("a", "put 1 1"),
             ("a", "up 1 1"), ("a", "up 2 1"), ("a", "take 1 1"), ("a", "up 0 4")],
        )
        # 6 times 19 by the digit 6
        self.assert_made(
            ["set b 19", "set c 6", "times a c b"],
            [("b", "up 1 1"), ("b", "put 0 1"), ("b", "up 0 4"), ("c", "up 2 1"), ("c", "up 1 1"), ("a", "up 2 1"),
             ("a", "up 1 1"), ("a", "up 0 4")],
        )

    def test_part(self):
        # what stood on a is cleared first, then b's moves, then a's
        self.assert_made(
            ["set a 200", "set b 44", "part a b 4"],
            [("a", "up 2 2"), ("b", "up 1 4"), ("b", "up 0 4"), ("a", "down 2 2"), ("b", "down 1 4"), ("b", "down 0 4"),
             ("a", "up 1 1"), ("a", "up 0 1")],
        )

    def test_root(self):
        self.assert_made(
            ["set a 200", "set b 144", "root a b"],
            [("a", "up 2 2"), ("b", "put 1 2"), ("b", "up 1 4"), ("b", "up 0 4"), ("a", "down 2 2"), ("a", "up 1 1"),
             ("a", "up 0 2")],
        )
        # also where the root stands there already
        self.assert_made(
            ["set a 2", "set b 4", "root a b"],
            [("a", "up 0 2"), ("b", "up 0 4"), ("a", "down 0 2"), ("a", "up 0 2")],
        )

    def test_again(self):
        self.assert_made(["again 2", "add a 1", "add b 1", "end"], [("a", "up 0 1"), ("b", "up 0 1")] * 2)
        self.assert_made(["again 0", "add a 1", "end", "add b 1"], [("b", "up 0 1")])

    def test_frames_between(self):
        made = made_of(read(["frame z 0x1+9:10", "set z 7", "frame y 1x5+4:10", "copy y z"]))
        self.assertEqual(shown(made), [("z", "up 0 7"), ("y", "put 0 1"), ("y", "up 0 2")])

    def test_refusals(self):
        self.assert_spoilt(4, "great", ["set a 999", "add a 1"])
        self.assert_spoilt(3, "below", ["take a 1"])
        self.assert_spoilt(4, "divisor", ["set a 999", "part c a 0"])
        self.assert_spoilt(4, "great", ["set a 999", "part c a 1"])
        self.assert_spoilt(4, "great", ["set a 256", "root c a"])
        self.assert_spoilt(4, "great", ["again 60", "add c 1", "end"])
        for rows in (["again 60"] * 3 + ["end"] * 3, ["take a 1"] + ["again 60"] * 4 + ["end"] * 4):
            with self.assertRaises(TooLong):
                made_of(read(HEAD + rows))

    def test_two_thousand_rows(self):
        rows = HEAD + ["again 40"] + ["add a 7", "take a 7"] * 24 + ["clear a", "end"]
        self.assertEqual(len(made_of(read(rows))), 40 * 24 * 4)
        with self.assertRaises(TooLong):
            made_of(read(rows + ["clear a"]))

    def test_asked_twice(self):
        script = read(HEAD + ["set a 5", "again 3", "gain b a", "end"])
        made = made_of(script)
        kept = shown(made)
        made.append("spoilt")
        self.assertEqual(shown(made_of(script)), kept)
        self.assertEqual(reckoned_of(script), {"a": 5, "b": 15, "c": 0})
        self.assertEqual(shown(made_of(script)), kept)


class ReplayedTest(unittest.TestCase):
    def replayed(self, rows):
        script = read(rows)
        return replayed_by(script, made_of(script))

    def test_by_hand(self):
        told = self.replayed(["frame z 2x5+5:10 2x5+5:10", "frame b 1x5+4:10", "set z 157", "frame a 0x1+1:2", "set b 4"])
        self.assertIsInstance(told, dict)
        self.assertEqual(list(told.items()), [("z", [(1, 2), (2, 5)]), ("b", [(0, 4)]), ("a", [(0, 0)])])

    def test_no_moves_leave_clear_frames(self):
        script = read(HEAD + ["set a 5"])
        self.assertEqual(replayed_by(script, []), {"a": [(0, 0)] * 3, "b": [(0, 0)] * 2, "c": [(0, 0)] * 4})
        self.assertEqual(replayed_by(read(["again 2", "end"]), []), {})

    def test_some_of_the_moves(self):
        script = read(HEAD + ["set a 5", "add a 6", "set b 3"])
        made = made_of(script)
        self.assertEqual(replayed_by(script, made[:1])["a"], [(1, 0), (0, 0), (0, 0)])
        self.assertEqual(replayed_by(script, made)["a"], [(0, 1), (0, 1), (0, 0)])

    def test_asked_twice_and_what_is_handed_in_stays(self):
        script = read(HEAD + ["set a 5"])
        made = made_of(script)
        kept = shown(made)
        told = replayed_by(script, made)
        told["a"].append("spoilt")
        told["more"] = []
        self.assertEqual(replayed_by(script, made), {"a": [(1, 0), (0, 0), (0, 0)], "b": [(0, 0)] * 2, "c": [(0, 0)] * 4})
        self.assertEqual(shown(made), kept)

    def test_scripts_come_to_what_is_reckoned(self):
        done = 0
        for rows in random_scripts():
            script = read(rows)
            wanted = reckoned_plainly(rows)
            if isinstance(wanted, tuple):
                with self.assertRaises(Spoilt) as taken:
                    made_of(script)
                self.assertEqual((taken.exception.row, taken.exception.why), wanted)
                continue
            done += 1
            made = made_of(script)
            self.assertEqual(shown(made), moves_by_the_words(rows))
            frames = {row.split(" ")[1]: layouts_in(row) for row in rows if row.startswith("frame ")}
            told = replayed_by(script, made)
            self.assertEqual([(name, borne_by(frames[name], standing)) for name, standing in told.items()], wanted)
            self.assertEqual([is_tidy(frames[name], standing) for name, standing in told.items()], [True] * len(told))
            self.assertEqual(list(reckoned_of(script).items()), wanted)
        self.assertGreater(done, 50)


if __name__ == "__main__":
    unittest.main()
