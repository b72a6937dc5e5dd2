import importlib
import math
import unittest

from beadframe.adding import adding_row, taking_row
from beadframe.cheapest import cheapest_of, table_of
from beadframe.desk import Desk
from beadframe.errors import Below, FrameError, Spoilt, TooGreat
from beadframe.frames import borne_by, digits_of, is_tidy, tidy_of
from beadframe.layouts import shown_layout
from beadframe.making import made_of, replayed_by
from beadframe.parting import quotient_rows, root_row
from beadframe.points import brought_row, part_borne, part_cut, part_set
from beadframe.prices import ByBeads, ByGrips, ByMoves
from beadframe.products import product_row
from beadframe.reckoning import reckoned_of
from beadframe.rows import done_all, read_row, shown_row, way_back
from beadframe.scripts import read_script
from beadframe.slips import slips_of, with_slip
from beadframe.standings import read_standing, shown_standing
from tests.samples import LAYOUTS, PLAIN_TEN, SOROBAN, SUANPAN, greatest_tidy, sample_frame, standings_of

SIXTY = 10 ** 60 - 1
TWENTY = [sample_frame(20, start) for start in range(15)] + [[layout] * 20 for layout in LAYOUTS]

INTERFACE = {
    "errors": "FrameError NoLayout TooGreat NoStanding Stuck NoMove Below NoDivisor Between NoRow Spoilt TooLong NoBack NoName NoSay",
    "layouts": "is_whole is_layout read_layout shown_layout full_worth count_of plain_of",
    "frames": "place_of borne_by clear_of digits_of tidy_of is_tidy",
    "standings": "read_standing shown_standing",
    "moves": "Move Up Down Put Take read_move same_move",
    "rows": "done_all way_back rows_between read_row shown_row",
    "prices": "Price ByMoves ByGrips ByBeads",
    "cheapest": "cheapest_of table_of",
    "adding": "tidied_row adding_row taking_row",
    "products": "product_row",
    "parting": "quotient_rows root_row",
    "points": "brought_row part_borne part_set part_cut",
    "scripts": "read_script",
    "reckoning": "reckoned_of",
    "making": "made_of replayed_by",
    "slips": "slips_of with_slip",
    "desk": "Desk",
}


def frame_row(name, frame):
    return f"frame {name} " + " ".join(shown_layout(layout) for layout in reversed(frame))


class InterfaceTest(unittest.TestCase):
    def test_every_name_is_there(self):
        for module, names in INTERFACE.items():
            for name in names.split(" "):
                self.assertTrue(callable(getattr(importlib.import_module(f"beadframe.{module}"), name)))


class TwentyRodsTest(unittest.TestCase):
    def assert_refused(self, refusal, asked, *handed):
        with self.assertRaises(refusal) as taken:
            asked(*handed)
        if refusal is TooGreat:
            self.assertEqual(taken.exception.rod, 19)

    def test_sums_there_and_back(self):
        for frame in TWENTY:
            for start in standings_of(frame):
                number = greatest_tidy(frame) - borne_by(frame, start)
                if number < 0:
                    continue
                there = adding_row(frame, start, number)
                reached = done_all(frame, start, there)
                self.assertEqual(borne_by(frame, reached), greatest_tidy(frame))
                self.assertEqual(done_all(frame, reached, way_back(there)), start)
                back = done_all(frame, reached, taking_row(frame, reached, number))
                self.assertEqual(back, tidy_of(frame, borne_by(frame, start)))

    def test_products_quotients_and_roots_there_and_back(self):
        for frame in TWENTY:
            clear = [(0, 0)] * 20
            root = math.isqrt(greatest_tidy(frame))
            for one in sorted({1, 2, root // 3 + 1, root}):
                product = done_all(frame, clear, product_row(frame, clear, one, root))
                self.assertEqual(borne_by(frame, product), one * root)
                rows = quotient_rows(frame, product, frame, root)
                self.assertEqual(done_all(frame, product, rows[0]), clear)
                self.assertEqual(done_all(frame, clear, rows[1]), tidy_of(frame, one))
            self.assertEqual(done_all(frame, clear, root_row(frame, product, frame)), tidy_of(frame, root))

    def test_numbers_of_sixty_figures(self):
        for frame in TWENTY:
            clear = [(0, 0)] * 20
            one = tidy_of(frame, 1)
            self.assertEqual(borne_by(frame, clear) + sum(
                digit * math.prod(layout[3] for layout in frame[:rod]) for rod, digit in enumerate(digits_of(frame, SIXTY))
            ), SIXTY)
            self.assert_refused(TooGreat, tidy_of, frame, SIXTY)
            self.assert_refused(TooGreat, adding_row, frame, clear, SIXTY)
            self.assert_refused(Below, taking_row, frame, one, SIXTY)
            self.assert_refused(TooGreat, product_row, frame, clear, SIXTY, SIXTY)
            self.assert_refused(TooGreat, product_row, frame, clear, 1, SIXTY)
            self.assert_refused(TooGreat, product_row, frame, clear, SIXTY, 1)
            self.assertEqual(product_row(frame, one, SIXTY, 0), [])
            self.assertEqual(quotient_rows(frame, one, frame, SIXTY), ([], []))
            self.assert_refused(TooGreat, part_set, frame, 10, (SIXTY, 1))
            self.assert_refused(TooGreat, part_cut, frame, 10, (SIXTY, 1))
            self.assertEqual(part_cut(frame, 0, (1, SIXTY)), (clear, (1, SIXTY)))

    def test_fewest_on_twelve_rods(self):
        for start in range(0, 15, 4):
            frame = sample_frame(12, start)
            for price in (ByMoves(), ByGrips(), ByBeads()):
                standing = standings_of(frame)[4]
                number = greatest_tidy(frame) // 7
                cheapest = cheapest_of(frame, standing, number, price)
                self.assertEqual(borne_by(frame, cheapest), number)
                self.assertEqual(table_of(frame, standing, number, price)[0][number], price.price(standing, cheapest))
                with self.assertRaises(TooGreat) as taken:
                    cheapest_of(frame, standing, SIXTY, price)
                self.assertEqual(taken.exception.rod, 11)

    def test_from_frame_to_frame_and_back(self):
        for at, frame in enumerate(TWENTY):
            other = TWENTY[(at + 7) % len(TWENTY)]
            number = min(greatest_tidy(frame), greatest_tidy(other))
            start = tidy_of(frame, number)
            row = brought_row(frame, start, other, standings_of(other)[5])
            reached = done_all(other, standings_of(other)[5], row)
            self.assertEqual(borne_by(other, reached), number)
            self.assertIs(is_tidy(other, reached), True)
            self.assertEqual(brought_row(other, reached, frame, start), [])

    def test_fractions_there_and_back(self):
        for frame in TWENTY:
            start = tidy_of(frame, greatest_tidy(frame) // 3)
            for point in range(21):
                part = part_borne(frame, start, point)
                self.assertEqual(part_set(frame, point, part), start)
                self.assertEqual(part_cut(frame, point, part), (start, (0, 1)))

    def test_texts_there_and_back(self):
        for frame in TWENTY:
            for standing in standings_of(frame):
                self.assertEqual(read_standing(frame, shown_standing(standing)), standing)
                self.assertEqual(shown_row(read_row(shown_row(root_row(frame, standing, frame)))),
                                 shown_row(root_row(frame, standing, frame)))

    def test_a_sum_that_went_wrong(self):
        for frame in TWENTY[::4]:
            start = tidy_of(frame, 0)
            row = adding_row(frame, start, greatest_tidy(frame) // 3)[:120]
            wrong = done_all(frame, start, row[:-1])
            slips = slips_of(frame, start, row, wrong)
            self.assertIn((len(row) - 1, "left", None), slips)
            for slip in slips:
                self.assertEqual(done_all(frame, start, with_slip(row, slip)), wrong)


class ScriptAndDeskTest(unittest.TestCase):
    FRAMES = {"a": [SOROBAN] * 20, "b": [SUANPAN] * 9, "c": sample_frame(20, 6), "d": [PLAIN_TEN] * 20}
    NUMBER = 987654321987654321
    STEPS = [
        f"set a {NUMBER}", "copy c a", "root b a", "times d b b", "lose a d", "part d c 1000003", "gain a c",
        "add a 999999999", "again 12", "add c 123456789012", "take c 99", "gain d c", "end", "lose d c", "clear b",
    ]

    def rows(self):
        return [frame_row(name, frame) for name, frame in self.FRAMES.items()] + self.STEPS

    def wanted(self):
        root = math.isqrt(self.NUMBER)
        quotient, rest = divmod(self.NUMBER, 1000003)
        a = self.NUMBER - root * root + rest + 999999999
        c, d = rest, quotient
        for turn in range(12):
            c += 123456789012 - 99
            d += c
        return {"a": a, "b": 0, "c": c, "d": d - c}

    def test_reckoned_made_and_run(self):
        script = read_script("\n".join(self.rows()))
        self.assertEqual(list(reckoned_of(script).items()), list(self.wanted().items()))
        stands = replayed_by(script, made_of(script))
        self.assertEqual({name: borne_by(self.FRAMES[name], standing) for name, standing in stands.items()}, self.wanted())
        self.assertEqual([is_tidy(self.FRAMES[name], standing) for name, standing in stands.items()], [True] * 4)
        answer = Desk().say("run " + "; ".join(self.rows()))
        self.assertEqual(answer, "; ".join(f"{name} {number}" for name, number in self.wanted().items()))

    def test_the_moves_of_a_script_done_on_a_desk(self):
        script = read_script("\n".join(self.rows()))
        desk = Desk()
        for name, frame in self.FRAMES.items():
            desk.say(frame_row(name, frame))
        made = made_of(script)
        for name, move in made:
            desk.say(f"do {name} {move.shown()}")
        for name, number in self.wanted().items():
            self.assertEqual(desk.say(f"bears {name}"), str(number))
            self.assertEqual(desk.say(f"shows {name}"), shown_standing(tidy_of(self.FRAMES[name], number)))
        # and all of them taken back
        for name, move in reversed(made):
            desk.say(f"back {name}")
        for name in self.FRAMES:
            self.assertEqual(desk.say(f"bears {name}"), "0")

    def test_rows_that_script_and_desk_have_both(self):
        for name, frame in self.FRAMES.items():
            steps = [f"add {name} 123456789", f"take {name} 98765432", f"add {name} 7", f"take {name} 24691364"]
            made = made_of(read_script("\n".join([frame_row(name, frame)] + steps)))
            desk = Desk()
            desk.say(frame_row(name, frame))
            answers = [desk.say(step) for step in steps]
            self.assertEqual("; ".join(answers), shown_row([move for one, move in made]))
            self.assertEqual(desk.say(f"bears {name}"), "0")

    def test_what_can_not_be_done_is_told_ahead(self):
        rows = self.rows() + [f"set b {SIXTY}"]
        script = read_script("\n".join(rows))
        for asked in (reckoned_of, made_of):
            with self.assertRaises(Spoilt) as taken:
                asked(script)
            self.assertEqual((taken.exception.row, taken.exception.why), (len(rows) - 1, "great"))
        desk = Desk()
        desk.say(frame_row("a", self.FRAMES["a"]))
        for row in (f"add a {SIXTY}", f"take a {SIXTY}", "run " + "; ".join(rows)):
            with self.assertRaises(FrameError):
                desk.say(row)
        self.assertEqual(desk.say("bears a"), "0")


if __name__ == "__main__":
    unittest.main()
