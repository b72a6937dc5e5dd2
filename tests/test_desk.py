import unittest

from beadframe.adding import adding_row, taking_row, tidied_row
from beadframe.cheapest import cheapest_of
from beadframe.desk import Desk
from beadframe.errors import (
    Below, NoBack, NoLayout, NoMove, NoName, NoRow, NoSay, NoStanding, Spoilt, Stuck, TooGreat, TooLong,
)
from beadframe.frames import tidy_of
from beadframe.points import brought_row
from beadframe.prices import ByBeads, ByGrips, ByMoves
from beadframe.rows import done_all, read_row, rows_between, shown_row
from beadframe.standings import shown_standing
from tests.samples import NO_TEXTS, SOROBAN, SUANPAN, random_scripts, reckoned_plainly, sample_frames

ROWS = [
    "frame a 2x5+5:10 2x5+5:10 2x5+5:10",
    "frame b 1x5+4:10 1x5+4:10",
    "do a up 0 5; put 0 2; up 2 1",
    "add b 7",
]
NO_NAMES = ["", "A", "aB", "a1", "1", "abcdefghi", "a_b", "a-b", "\u00e4", "a\n", "a\t", "a,", "a;", "z" * 60]
NO_NUMBERS = ["", "00", "01", "-1", "-0", "+1", "1.0", "1e2", "a", "1a", "0x1", "1_0", "\u0661", "\u00b2", "5\n", "9" * 61,
              "0" * 60, "1" + "0" * 60]


def new_desk(rows=ROWS):
    desk = Desk()
    for row in rows:
        desk.say(row)
    return desk


class DeskTest(unittest.TestCase):
    def setUp(self):
        self.desk = new_desk()

    def assert_answers(self, row, answer):
        told = self.desk.say(row)
        self.assertIsInstance(told, str)
        self.assertEqual(told, answer)

    def assert_refused(self, refusal, told, **fields):
        """A refused row leaves no trace: all that a desk shows, and how far its moves go back, stays."""
        before = self.all_shown()
        with self.assertRaises(refusal) as taken:
            self.desk.say(told)
        for field, value in fields.items():
            self.assertEqual(getattr(taken.exception, field), value)
        self.assertEqual(self.all_shown(), before)

    def all_shown(self):
        told = []
        for name in ("a", "b", "c", "new"):
            try:
                told.append((name, self.desk.say(f"shows {name}")))
            except NoName:
                told.append((name, None))
        return told

    def assert_goes_back(self, name, standings):
        """The moves done are taken back one by one, until there is none."""
        for standing in standings:
            self.assert_answers(f"back {name}", standing)
        self.assert_refused(NoBack, f"back {name}")


class FrameTest(DeskTest):
    def test_a_clear_frame(self):
        self.assert_answers("frame new 0x1+1:2 1x5+4:10 6x4+3:25", "ok")
        self.assert_answers("shows new", "0.0 0.0 0.0")
        self.assert_answers("bears new", "0")
        self.assert_refused(NoBack, "back new")

    def test_from_the_last_rod_to_rod_0(self):
        self.assert_answers("frame new 0x1+1:2 6x4+3:25", "ok")
        self.assert_answers("do new put 0 6; up 0 3; up 1 1", "0.1 6.3")
        self.assert_answers("bears new", "52")

    def test_in_the_stead_of_one(self):
        self.assert_answers("frame a 1x5+4:10", "ok")
        self.assert_answers("shows a", "0.0")
        self.assert_refused(NoBack, "back a")
        self.assert_answers("shows b", "0.0 1.2")
        self.assert_answers("frame b 1x5+4:10 1x5+4:10", "ok")
        self.assert_answers("shows b", "0.0 0.0")
        self.assert_refused(NoBack, "back b")

    def test_twenty_layouts_and_one_more(self):
        self.assert_answers("frame new" + " 1x5+4:10" * 20, "ok")
        self.assert_answers("shows new", " ".join(["0.0"] * 20))
        self.assert_refused(NoSay, "frame a" + " 1x5+4:10" * 21)
        self.assert_refused(NoSay, "frame a" + " 1x5+4:10" * 40)

    def test_too_many_layouts_go_ahead_of_one_that_is_none(self):
        self.assert_refused(NoSay, "frame a" + " nothing" * 21)
        self.assert_refused(NoSay, "frame a" + " 1x5+4:10" * 20 + " nothing")
        self.assert_refused(NoLayout, "frame a" + " 1x5+4:10" * 19 + " nothing")

    def test_layouts_that_are_none(self):
        for layout in ("nothing", "1x5+4", "1x5+4:11", "01x5+4:10", "7x1+4:10", "0x2+9:10", "1x5+3:9", "5", "1x5+4:10;"):
            self.assert_refused(NoLayout, f"frame a {layout}")
            self.assert_refused(NoLayout, f"frame new {layout}")
            self.assert_refused(NoLayout, f"frame a 1x5+4:10 {layout}")
            self.assert_refused(NoLayout, f"frame a {layout} 1x5+4:10")

    def test_names_that_are_none_go_ahead_of_layouts(self):
        for name in NO_NAMES:
            self.assert_refused(NoSay, f"frame {name} 1x5+4:10")
            self.assert_refused(NoSay, f"frame {name} nothing")

    def test_words_and_blanks(self):
        for row in ("frame", "frame ", "frame a", "frame a ", "frame  a 1x5+4:10", "frame a  1x5+4:10", "frame a 1x5+4:10 ",
                    " frame a 1x5+4:10", "frame a 1x5+4:10  1x5+4:10", "Frame a 1x5+4:10"):
            self.assert_refused(NoSay, row)

    def test_names_of_eight_letters(self):
        self.assert_answers("frame abcdefgh 1x5+4:10", "ok")
        self.assert_answers("shows abcdefgh", "0.0")
        self.assert_answers("frame frame 1x5+4:10", "ok")
        self.assert_answers("shows frame", "0.0")


class ShowsAndBearsTest(DeskTest):
    def test_shows(self):
        self.assert_answers("shows a", "0.1 0.0 2.5")
        self.assert_answers("shows b", "0.0 1.2")

    def test_bears(self):
        self.assert_answers("bears a", "115")
        self.assert_answers("bears b", "7")

    def test_bears_with_a_point(self):
        for point, part in enumerate(("115/1", "23/2", "23/20", "23/200")):
            self.assert_answers(f"bears a {point}", part)
        for point, part in enumerate(("7/1", "7/10", "7/100")):
            self.assert_answers(f"bears b {point}", part)
        self.desk.say("take b 7")
        for point in range(3):
            self.assert_answers(f"bears b {point}", "0/1")

    def test_points_beyond_the_rods(self):
        self.assert_refused(NoSay, "bears a 4")
        self.assert_refused(NoSay, "bears b 3")
        self.assert_refused(NoSay, "bears a " + "9" * 60)

    def test_names_unknown_go_ahead_of_points_beyond(self):
        self.assert_refused(NoName, "bears c 4")
        self.assert_refused(NoName, "bears c " + "9" * 60)

    def test_points_that_are_none_go_ahead_of_names_unknown(self):
        for point in NO_NUMBERS:
            self.assert_refused(NoSay, f"bears a {point}")
            self.assert_refused(NoSay, f"bears c {point}")

    def test_words_and_blanks(self):
        for row in ("shows", "shows ", "shows  a", "shows a ", "shows a b", " shows a", "shows a 1", "bears", "bears ",
                    "bears  a", "bears a ", "bears a 1 ", "bears a  1", "bears a 1 1", "bears a b", "Shows a", "show a"):
            self.assert_refused(NoSay, row)


class DoAndBackTest(DeskTest):
    def test_do(self):
        self.assert_answers("do b up 1 2", "0.2 1.2")
        self.assert_answers("do b take 0 1; put 1 1", "1.2 0.2")
        self.assert_answers("do b down 0 2; down 1 1; up 0 4", "1.1 0.4")

    def test_no_moves(self):
        self.assert_answers("do b ", "0.0 1.2")
        self.assert_goes_back("b", ["0.0 1.0", "0.0 0.0"])

    def test_stuck(self):
        self.assert_refused(Stuck, "do b up 1 5", rod=1, at=0)
        self.assert_refused(Stuck, "do b up 1 4; put 0 1", rod=0, at=1)
        self.assert_refused(Stuck, "do b up 1 1; up 1 1; up 2 1", rod=2, at=2)
        self.assert_goes_back("b", ["0.0 1.0", "0.0 0.0"])

    def test_no_moves_at_all(self):
        for moves in (" ", "up", "up 0", "up 0 0", "up 0 1;", "up 0 1; ", "up 0 1;up 0 1", "up  0 1", " up 0 1", "up 0 1 ",
                      "up 00 1", "UP 0 1", "push 0 1", "up 0 1; nothing", "up 0 1\n", "up 100 1"):
            self.assert_refused(NoMove, f"do b {moves}")

    def test_no_move_goes_ahead_of_stuck(self):
        self.assert_refused(NoMove, "do b up 1 5; nothing")

    def test_words_and_blanks(self):
        for row in ("do", "do ", "do b", "do  b up 0 1", " do b up 0 1", "do  ", "Do b up 0 1", "do B up 0 1"):
            self.assert_refused(NoSay, row)

    def test_names_go_ahead_of_moves(self):
        for name in NO_NAMES:
            self.assert_refused(NoSay, f"do {name} nothing")
        self.assert_refused(NoName, "do c nothing")
        self.assert_refused(NoName, "do up 0 1")

    def test_back(self):
        self.assert_answers("back a", "0.0 0.0 2.5")
        self.assert_answers("back a", "0.0 0.0 0.5")
        self.assert_answers("back a", "0.0 0.0 0.0")
        self.assert_refused(NoBack, "back a")
        self.assert_refused(NoBack, "back a")
        self.assert_answers("do a up 0 1", "0.0 0.0 0.1")
        self.assert_goes_back("a", ["0.0 0.0 0.0"])
        # the other frame's moves are its own
        self.assert_goes_back("b", ["0.0 1.0", "0.0 0.0"])

    def test_moves_behind_those_taken_back(self):
        self.desk.say("back a")
        self.assert_answers("do a up 1 1; up 2 2", "0.2 0.1 2.5")
        self.assert_goes_back("a", ["0.0 0.1 2.5", "0.0 0.0 2.5", "0.0 0.0 0.5", "0.0 0.0 0.0"])

    def test_back_words_and_names(self):
        for row in ("back", "back ", "back  a", "back a ", "back a 1", "back a b", " back a", "back A"):
            self.assert_refused(NoSay, row)
        self.assert_refused(NoName, "back c")


class PushedTest(DeskTest):
    """The rows that do moves and answer them."""

    def test_fewest(self):
        # rod 0 counts 15: without its upper beads 5
        self.assert_answers("fewest a 105 moves", "take 0 2")
        self.assert_answers("bears a", "105")

    def fewest(self, name, number, price):
        frame = {"a": [SUANPAN] * 3, "b": [SOROBAN] * 2}[name]
        standing = {"a": [(2, 5), (0, 0), (0, 1)], "b": [(1, 2), (0, 0)]}[name]
        return shown_row(rows_between(frame, standing, cheapest_of(frame, standing, number, price)))

    def test_fewest_by_each_price(self):
        self.assertEqual(self.fewest_new("moves", 15), "up 1 1; up 0 5")
        self.assertEqual(self.fewest_new("grips", 15), "put 0 2; up 0 5")
        self.assertEqual(self.fewest_new("beads", 15), "up 1 1; put 0 1")

    def fewest_new(self, price, number):
        self.desk.say("frame new 2x5+5:10 2x5+5:10")
        answer = self.desk.say(f"fewest new {number} {price}")
        self.assert_answers("bears new", str(number))
        return answer

    def test_fewest_from_what_stands_there(self):
        for price, kind in (("moves", ByMoves()), ("grips", ByGrips()), ("beads", ByBeads())):
            for number in (0, 1, 20, 105, 114, 115, 116, 1000, 1665):
                self.desk = new_desk()
                self.assert_answers(f"fewest a {number} {price}", self.fewest("a", number, kind))
                self.assert_answers("bears a", str(number))

    def test_fewest_refusals(self):
        self.assert_refused(TooGreat, "fewest b 100 moves", rod=1)
        self.assert_refused(TooGreat, "fewest a 1666 beads", rod=2)
        self.assert_refused(TooGreat, "fewest a " + "9" * 60 + " grips", rod=2)
        for price in ("", "move", "Moves", "coins", "moves;", "5"):
            self.assert_refused(NoSay, f"fewest a 5 {price}")
            self.assert_refused(NoSay, f"fewest c 5 {price}")
        for number in NO_NUMBERS:
            self.assert_refused(NoSay, f"fewest a {number} moves")
            self.assert_refused(NoSay, f"fewest c {number} moves")
        for row in ("fewest", "fewest a", "fewest a 5", "fewest a 5 moves ", "fewest a 5 moves 1", "fewest a  5 moves",
                    "fewest a moves 5", " fewest a 5 moves", "fewest a 5  moves"):
            self.assert_refused(NoSay, row)
        self.assert_refused(NoName, "fewest c 5 moves")
        self.assert_refused(NoName, "fewest c 1666 moves")

    def test_tidy(self):
        self.assert_answers("tidy a", "up 1 1; take 0 1; down 0 5")
        self.assert_answers("shows a", "0.1 0.1 1.0")
        self.assert_answers("tidy a", "")
        self.assert_answers("tidy b", "")

    def test_tidy_refusals(self):
        self.desk.say("frame c 2x5+5:10 2x5+5:10")
        self.desk.say("do c put 1 2; up 1 5; put 0 2")
        self.assert_refused(TooGreat, "tidy c", rod=1)
        for row in ("tidy", "tidy ", "tidy a ", "tidy a b", "tidy  a", " tidy a", "tidy A"):
            self.assert_refused(NoSay, row)
        self.assert_refused(NoName, "tidy d")

    def test_add(self):
        self.assert_answers("add b 15", "up 1 1; up 1 1; take 0 1")
        self.assert_answers("shows b", "0.2 0.2")
        self.assert_answers("add a 5", "up 1 1; take 0 1; down 0 5; up 1 1; take 0 1")
        self.assert_answers("bears a", "120")
        self.assert_answers("add a 0", "")

    def test_take(self):
        self.assert_answers("take b 5", "take 0 1")
        self.assert_answers("take b 0", "")
        self.assert_answers("take a 20", "up 1 1; take 0 1; down 0 5; down 2 1; put 1 1; up 1 3")
        self.assert_answers("bears a", "95")

    def test_add_and_take_refusals(self):
        self.assert_refused(TooGreat, "add b 93", rod=1)
        self.assert_refused(TooGreat, "add a " + "9" * 60, rod=2)
        self.assert_refused(Below, "take b 8")
        self.assert_refused(Below, "take a " + "9" * 60)
        self.desk.say("frame c 2x5+5:10 2x5+5:10")
        self.desk.say("do c put 1 2; up 1 5; put 0 2")
        self.assert_refused(TooGreat, "add c 0", rod=1)
        self.assert_refused(TooGreat, "take c 0", rod=1)
        self.assert_refused(TooGreat, "take c 1000", rod=1)
        for verb in ("add", "take"):
            for number in NO_NUMBERS:
                self.assert_refused(NoSay, f"{verb} a {number}")
                self.assert_refused(NoSay, f"{verb} new {number}")
            for row in ("", " ", " a", " a ", "  a 1", " a  1", " a 1 ", " a 1 1", " a a", " 1 a", " A 1"):
                self.assert_refused(NoSay, verb + row)
            self.assert_refused(NoName, f"{verb} new 1")
            self.assert_refused(NoName, f"{verb} new 1000")

    def test_bring(self):
        self.assert_answers("bring a b", "down 2 1; take 0 1; down 0 3")
        self.assert_answers("shows a", "0.0 0.0 1.2")
        self.assert_answers("shows b", "0.0 1.2")
        self.assert_answers("bring a b", "")
        self.desk.say("add a 22")
        self.assert_answers("bring b a", "up 1 2; up 0 2")

    def test_bring_to_itself_tidies(self):
        self.assert_answers("bring a a", "up 1 1; take 0 1; down 0 5")
        self.assert_answers("shows a", "0.1 0.1 1.0")
        self.assert_answers("bring b b", "")

    def test_bring_refusals(self):
        self.assert_refused(TooGreat, "bring b a", rod=1)
        for row in ("bring", "bring a", "bring a ", "bring a b ", "bring a b a", "bring  a b", "bring a  b", " bring a b",
                    "bring A b", "bring a B", "bring c B", "bring a 5"):
            self.assert_refused(NoSay, row)
        for row in ("bring a c", "bring c a", "bring c c", "bring b c"):
            self.assert_refused(NoName, row)

    def test_the_moves_are_done_and_taken_back(self):
        for row in ("fewest a 20 beads", "tidy a", "add a 5", "take a 20", "bring a b", "do a down 0 5; up 1 2"):
            self.desk = new_desk()
            standing = [(2, 5), (0, 0), (0, 1)]
            answer = self.desk.say(row)
            moves = read_row(row[5:] if row.startswith("do ") else answer)
            frame = [SUANPAN] * 3
            stands = [done_all(frame, standing, moves[:many]) for many in range(len(moves) + 1)]
            self.assert_answers("shows a", shown_standing(stands[-1]))
            back = [shown_standing(one) for one in reversed(stands[:-1])]
            self.assert_goes_back("a", back + ["0.0 0.0 2.5", "0.0 0.0 0.5", "0.0 0.0 0.0"])

    def test_the_same_as_the_stages(self):
        for frame in sample_frames()[::11]:
            words = " ".join(f"{upper}x{worth}+{lower}:{base}" for upper, worth, lower, base in reversed(frame))
            self.desk.say(f"frame a {words}")
            clear = [(0, 0) for layout in frame]
            self.assert_answers("add a 1", shown_row(adding_row(frame, clear, 1)))
            one = tidy_of(frame, 1)
            self.assert_answers("tidy a", shown_row(tidied_row(frame, one)))
            self.assert_answers("bring a a", shown_row(brought_row(frame, one, frame, one)))
            self.assert_answers("take a 1", shown_row(taking_row(frame, one, 1)))
            self.assert_answers("shows a", shown_standing(clear))


class RunTest(DeskTest):
    def test_what_its_frames_bear(self):
        self.assert_answers("run frame z 1x5+4:10", "z 0")
        self.assert_answers("run frame z 1x5+4:10; set z 5; frame b 0x1+9:10; copy b z; add b 2", "z 5; b 7")
        self.assert_answers("run frame z 1x5+4:10 1x5+4:10; again 3; add z 7; end", "z 21")
        self.assert_answers("run again 3; end", "")

    def test_the_desk_s_own_frames_stay(self):
        before = self.all_shown()
        self.assert_answers("run frame a 1x5+4:10; set a 3; frame c 1x5+4:10", "a 3; c 0")
        self.assertEqual(self.all_shown(), before)
        self.assert_refused(NoRow, "run set a 3", row=0)
        self.assert_refused(NoRow, "run frame z 1x5+4:10; copy z a", row=1)
        self.assert_goes_back("b", ["0.0 1.0", "0.0 0.0"])

    def test_no_rows(self):
        for text, row in (("", 0), (" ", 0), ("; ", 0), ("nothing", 0), (" frame z 1x5+4:10", 0), ("frame z 1x5+4:10; ", 1),
                          ("frame z 1x5+4:10 ", 0), ("frame z 1x5+4:10;", 0), ("frame z 1x5+4:10;set z 5", 0),
                          ("frame z 1x5+4:10;  set z 5", 1), ("frame z 1x5+4:10; set z 5; set y 5", 2),
                          ("frame z 1x5+4:10; again 2", 2), ("end", 0), ("frame z nothing", 0)):
            self.assert_refused(NoRow, f"run {text}", row=row)

    def test_line_feeds_do_not_part_its_rows(self):
        self.assert_refused(NoRow, "run frame z 1x5+4:10\nset z 5", row=0)
        self.assert_refused(NoRow, "run frame z 1x5+4:10; set z 5\nset z 6; end", row=1)
        self.assert_refused(NoRow, "run frame z 1x5+4:10\n", row=0)

    def test_a_hundred_rows_and_one_more(self):
        rows = ["frame z 1x5+4:10"] + ["clear z"] * 100
        self.assert_answers("run " + "; ".join(rows[:100]), "z 0")
        self.assert_refused(NoRow, "run " + "; ".join(rows), row=100)

    def test_refusals(self):
        self.assert_refused(Spoilt, "run frame z 1x5+4:10; set z 10", row=1, why="great")
        self.assert_refused(Spoilt, "run frame z 1x5+4:10; again 2; take z 1; end", row=2, why="below")
        self.assert_refused(Spoilt, "run frame z 1x5+4:10; frame y 1x5+4:10; part z y 0", row=2, why="divisor")
        self.assert_refused(TooLong, "run " + "; ".join(["again 60"] * 4 + ["end"] * 4))
        self.assert_refused(TooLong, "run frame z 1x5+4:10; take z 1; " + "; ".join(["again 60"] * 4 + ["end"] * 4))
        self.assert_refused(NoRow, "run frame z 1x5+4:10; take z 1; nothing", row=2)

    def test_words(self):
        for row in ("run", " run frame z 1x5+4:10", "Run frame z 1x5+4:10", "runframe z 1x5+4:10"):
            self.assert_refused(NoSay, row)

    def test_scripts(self):
        for rows in random_scripts()[::4]:
            wanted = reckoned_plainly(rows)
            text = "run " + "; ".join(rows)
            if isinstance(wanted, tuple):
                self.assert_refused(Spoilt, text, row=wanted[0], why=wanted[1])
            else:
                self.assert_answers(text, "; ".join(f"{name} {number}" for name, number in wanted))


class SlipsTest(DeskTest):
    def test_slips(self):
        self.assert_answers("slips b 0.1/1.2 up 1 2", "0 fewer")
        self.assert_answers("slips b 0.0/1.2 up 1 2", "0 left")
        self.assert_answers("slips b 0.2/1.3 up 1 2; up 1 1; up 0 1", "0 fewer; 1 left")
        self.assert_answers("slips b 0.3/1.2 up 1 2", "0 more")
        self.assert_answers("slips b 0.0/1.4 up 1 2", "0 last")
        self.assert_answers("slips b 0.1/1.2 up 0 1", "0 next")

    def test_no_slips(self):
        self.assert_answers("slips b 0.2/1.2 up 1 2", "")
        self.assert_answers("slips b 0.0/1.2 ", "")
        self.assert_answers("slips b 1.4/1.4 up 1 2", "")

    def test_nothing_is_changed(self):
        self.assert_answers("slips b 0.0/1.3 up 0 2", "0 fewer")
        self.assert_answers("shows b", "0.0 1.2")
        self.assert_goes_back("b", ["0.0 1.0", "0.0 0.0"])

    def test_one_rod(self):
        self.desk.say("frame c 1x5+4:10")
        self.assert_answers("slips c 0.1 up 0 2", "0 fewer")
        self.assert_refused(NoStanding, "slips c 0.1/0.0 up 0 2")

    def test_a_hundred_and_twenty_moves(self):
        moves = "; ".join(["up 0 1", "down 0 1"] * 60)
        self.assert_answers(f"slips b 0.0/1.3 {moves}", "; ".join(f"{at} more; {at + 1} left" for at in range(0, 120, 2)))

    def test_standings_that_are_none(self):
        for standing in ("nothing", "0.0", "0.0/0.0/0.0", "0.0/0.5", "2.0/0.0", "0.0/", "/0.0", "00.0/0.0", "0.0/0.0/",
                         "0.0//0.0", "0.0;0.0", "/"):
            self.assert_refused(NoStanding, f"slips b {standing} up 1 2")
            # ahead of moves that are none: words from the left
            self.assert_refused(NoStanding, f"slips b {standing} nothing")
            self.assert_refused(NoStanding, f"slips b {standing} ")
            self.assert_refused(NoName, f"slips c {standing} nothing")

    def test_moves_that_are_none(self):
        for moves in ("nothing", " ", " up 0 1", "up 0 1 ", "up 0 0", "up 0 1;", "up 0 1; ", "0.0 up 0 1"):
            self.assert_refused(NoMove, f"slips b 0.0/0.0 {moves}")
            self.assert_refused(NoName, f"slips c 0.0/0.0 {moves}")

    def test_words(self):
        for row in ("slips", "slips ", "slips b", "slips b ", "slips b 0.0/0.0", "slips  b 0.0/0.0 up 0 1",
                    "slips b  0.0/0.0 up 0 1", " slips b 0.0/0.0 up 0 1", "slips B 0.0/0.0 up 0 1", "slip b 0.0/0.0 up 0 1",
                    "slips 1 nothing nothing"):
            self.assert_refused(NoSay, row)
        self.assert_refused(NoName, "slips c 0.0/0.0 up 0 1")


class RefusalsTest(DeskTest):
    def test_no_rows(self):
        for row in ("", " ", "  ", "nothing", "a", "5", "ok", "set a 5", "gain a b", "lose a b", "times a b b", "part a b 5",
                    "root a b", "copy a b", "clear a", "again 5", "end", "up 0 1", "shows\ta", "shows\na", "shows a\n",
                    "frame\ta\t1x5+4:10", "kept a", "say a", "keep a", "name a"):
            self.assert_refused(NoSay, row)

    def test_no_texts(self):
        for thing in NO_TEXTS + [["shows", "a"], ("shows", "a"), b"shows a"]:
            self.assert_refused(NoSay, thing)

    def test_names_that_are_none(self):
        for name in NO_NAMES:
            for row in (f"shows {name}", f"bears {name}", f"bears {name} 1", f"do {name} up 0 1", f"back {name}",
                        f"fewest {name} 5 moves", f"tidy {name}", f"add {name} 5", f"take {name} 5", f"bring {name} b",
                        f"bring b {name}", f"slips {name} 0.0/0.0 up 0 1"):
                self.assert_refused(NoSay, row)

    def test_names_unknown(self):
        for row in ("shows c", "bears c", "bears c 1", "do c up 0 1", "do c ", "back c", "fewest c 5 moves", "tidy c",
                    "add c 5", "take c 5", "bring c b", "bring b c", "slips c 0.0/0.0 up 0 1"):
            self.assert_refused(NoName, row)

    def test_no_say_goes_ahead_of_no_name(self):
        for row in ("shows c c", "bears c x", "back c 1", "fewest c x moves", "fewest c 5 x", "tidy c c", "add c x", "take c 01",
                    "bring c X", "bring X c", "slips c", "do c"):
            self.assert_refused(NoSay, row)

    def test_a_refused_row_changes_no_moves(self):
        for row in ("do a up 1 1; up 1 9", "do a nothing", "fewest a 9999 moves", "add a 9999", "take a 9999", "frame a nothing",
                    "frame a", "bring a c", "bears a 9", "slips a 0.0 up 0 1", "run nothing"):
            with self.assertRaises(ValueError):
                self.desk.say(row)
        self.assert_goes_back("a", ["0.0 0.0 2.5", "0.0 0.0 0.5", "0.0 0.0 0.0"])


class DesksTest(unittest.TestCase):
    def test_nothing_in_common(self):
        one = Desk()
        other = Desk()
        one.say("frame a 1x5+4:10")
        with self.assertRaises(NoName):
            other.say("shows a")
        other.say("frame a 2x5+5:10")
        other.say("do a put 0 2")
        one.say("add a 3")
        self.assertEqual((one.say("shows a"), other.say("shows a")), ("0.3", "2.0"))
        one.say("back a")
        with self.assertRaises(NoBack):
            one.say("back a")
        self.assertEqual(other.say("back a"), "0.0")
        third = Desk()
        with self.assertRaises(NoName):
            third.say("bears a")

    def test_frames_of_one_layout_have_nothing_in_common(self):
        desk = Desk()
        desk.say("frame a 1x5+4:10")
        desk.say("frame b 1x5+4:10")
        desk.say("add a 3")
        self.assertEqual((desk.say("bears a"), desk.say("bears b")), ("3", "0"))
        with self.assertRaises(NoBack):
            desk.say("back b")


if __name__ == "__main__":
    unittest.main()
