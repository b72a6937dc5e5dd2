import unittest

from beadframe.errors import NoMove, Stuck
from beadframe.moves import Down, Move, Put, Take, Up, read_move, same_move
from tests.samples import NO_TEXTS, SOROBAN, SUANPAN, sample_frames, standings_of

KINDS = {"up": Up, "down": Down, "put": Put, "take": Take}
CONTRARIES = {"up": "down", "down": "up", "put": "take", "take": "put"}


def room_for(word, layout, rod_standing):
    """How many beads can go so, by the words of point 9."""
    upper, worth, lower, base = layout
    high, low = rod_standing
    return {"up": lower - low, "down": low, "put": upper - high, "take": high}[word]


def pushed(word, rod_standing, beads):
    high, low = rod_standing
    return {
        "up": (high, low + beads), "down": (high, low - beads),
        "put": (high + beads, low), "take": (high - beads, low),
    }[word]


class KindsTest(unittest.TestCase):
    def test_each_is_a_move_and_none_of_the_others(self):
        for word, kind in KINDS.items():
            move = kind(3, 2)
            self.assertIsInstance(move, Move)
            for other_word, other in KINDS.items():
                self.assertEqual(isinstance(move, other), word == other_word)

    def test_fields(self):
        for kind in KINDS.values():
            move = kind(3, 2)
            self.assertEqual((move.rod, move.beads), (3, 2))
            named = kind(rod=0, beads=1)
            self.assertEqual((named.rod, named.beads), (0, 1))

    def test_word_and_shown(self):
        self.assertEqual(Put(3, 1).shown(), "put 3 1")
        for word, kind in KINDS.items():
            for rod in (0, 1, 9, 10, 19, 99):
                for beads in (1, 9, 10, 24, 99):
                    move = kind(rod, beads)
                    self.assertEqual(move.word(), word)
                    self.assertEqual(move.shown(), f"{word} {rod} {beads}")

    def test_contrary(self):
        for word, kind in KINDS.items():
            move = kind(7, 3)
            contrary = move.contrary()
            self.assertIsInstance(contrary, KINDS[CONTRARIES[word]])
            self.assertEqual(contrary.shown(), f"{CONTRARIES[word]} 7 3")
            self.assertEqual(contrary.contrary().shown(), move.shown())
            self.assertIsInstance(contrary.contrary(), kind)
            self.assertEqual(move.shown(), f"{word} 7 3")


class DoneTest(unittest.TestCase):
    def assert_stuck(self, move, frame, standing):
        with self.assertRaises(Stuck, msg=move.shown()) as taken:
            move.done(frame, standing)
        self.assertEqual(taken.exception.rod, move.rod)
        self.assertIsNone(taken.exception.at)

    def test_by_hand(self):
        frame = [SOROBAN, SUANPAN]
        self.assertEqual(Up(0, 4).done(frame, [(0, 0), (1, 2)]), [(0, 4), (1, 2)])
        self.assertEqual(Down(1, 2).done(frame, [(0, 0), (1, 2)]), [(0, 0), (1, 0)])
        self.assertEqual(Put(1, 1).done(frame, [(0, 0), (1, 2)]), [(0, 0), (2, 2)])
        self.assertEqual(Take(1, 1).done(frame, [(0, 0), (1, 2)]), [(0, 0), (0, 2)])
        self.assert_stuck(Up(0, 5), frame, [(0, 0), (1, 2)])
        self.assert_stuck(Down(1, 3), frame, [(0, 0), (1, 2)])
        self.assert_stuck(Put(1, 2), frame, [(0, 0), (1, 2)])
        self.assert_stuck(Take(0, 1), frame, [(0, 0), (1, 2)])
        self.assert_stuck(Put(2, 1), frame, [(0, 0), (1, 2)])

    def test_as_many_beads_as_can_go_and_one_more(self):
        for frame in sample_frames():
            for standing in standings_of(frame):
                kept = list(standing)
                for rod in (0, len(frame) // 2, len(frame) - 1):
                    for word, kind in KINDS.items():
                        room = room_for(word, frame[rod], standing[rod])
                        for beads in {1, room // 2, room} - {0}:
                            if beads <= room:
                                told = kind(rod, beads).done(frame, standing)
                                wanted = list(standing)
                                wanted[rod] = pushed(word, standing[rod], beads)
                                self.assertEqual(told, wanted)
                        self.assert_stuck(kind(rod, room + 1), frame, standing)
                        self.assert_stuck(kind(rod, room + 50), frame, standing)
                self.assertEqual(standing, kept)

    def test_the_contrary_brings_the_beads_back(self):
        for frame in sample_frames():
            for standing in standings_of(frame):
                for word, kind in KINDS.items():
                    rod = len(frame) // 3
                    room = room_for(word, frame[rod], standing[rod])
                    if room > 0:
                        move = kind(rod, room)
                        told = move.done(frame, standing)
                        self.assertEqual(move.contrary().done(frame, told), standing)

    def test_a_rod_that_the_frame_has_not(self):
        for frame in sample_frames():
            standing = standings_of(frame)[3]
            for kind in KINDS.values():
                for rod in (len(frame), len(frame) + 1, 99, 10 ** 20):
                    self.assert_stuck(kind(rod, 1), frame, standing)

    def test_the_standing_told_is_a_new_list(self):
        frame = [SOROBAN, SUANPAN]
        standing = [(0, 1), (1, 2)]
        told = Up(0, 1).done(frame, standing)
        told[1] = "spoilt"
        told.append("spoilt")
        self.assertEqual(standing, [(0, 1), (1, 2)])
        self.assertEqual(Up(0, 1).done(frame, standing), [(0, 2), (1, 2)])
        self.assertEqual(frame, [SOROBAN, SUANPAN])
        self.assertIsInstance(Up(0, 1).done(frame, standing)[0], tuple)


class ReadMoveTest(unittest.TestCase):
    def assert_refused(self, text):
        with self.assertRaises(NoMove, msg=repr(text)):
            read_move(text)

    def test_each_word_rod_and_number(self):
        for word, kind in KINDS.items():
            for rod in range(100):
                for beads in range(1, 100):
                    move = read_move(f"{word} {rod} {beads}")
                    if not isinstance(move, kind) or (move.rod, move.beads) != (rod, beads):
                        self.fail((word, rod, beads))

    def test_written_and_read_back(self):
        for text in ("put 3 1", "up 0 4", "down 19 24", "take 99 99"):
            self.assertEqual(read_move(text).shown(), text)

    def test_noughts_ahead(self):
        for text in ("put 03 1", "put 3 01", "put 00 1", "put 3 00", "up 0 001", "up 000 1", "up 01 1"):
            self.assert_refused(text)

    def test_three_figures(self):
        for text in ("put 100 1", "put 3 100", "put 999 1", "up 0 999", "up " + "1" * 9000 + " 1", "up 1 " + "1" * 9000):
            self.assert_refused(text)

    def test_no_beads(self):
        for word in KINDS:
            self.assert_refused(f"{word} 3 0")
            self.assert_refused(f"{word} 0 0")

    def test_other_words(self):
        for text in ("PUT 3 1", "Put 3 1", "puT 3 1", "UP 0 1", "pu 3 1", "putt 3 1", "left 3 1", "push 3 1", " 3 1",
                     "3 put 1", "3 1 put", "1 3 1", "updown 3 1"):
            self.assert_refused(text)

    def test_one_sign_more_anywhere(self):
        whole = "put 3 1"
        for sign in " \t\n\r\v\f+-_.;,a\u00a0\u2028\u0665\u00b2\uff11\0":
            for place in range(len(whole) + 1):
                self.assert_refused(whole[:place] + sign + whole[place:])

    def test_one_sign_less_anywhere(self):
        whole = "put 3 1"
        for place in range(len(whole)):
            self.assert_refused(whole[:place] + whole[place + 1:])

    def test_words_lacking_or_over(self):
        for text in ("", " ", "  ", "put", "put 3", "put 3 ", "put  1", "3 1", "put 3 1 1", "put 3 1 ", "put 3 1; up 0 1",
                     "put 3 1;", "put\t3\t1", "put 3 1\n", "put,3,1"):
            self.assert_refused(text)

    def test_signs_and_other_figures(self):
        for text in ("put -3 1", "put +3 1", "put 3 -1", "put 3 +1", "put 3 1.0", "put \u0663 1", "put 3 \u00b9",
                     "put 3 \uff11", "put a 1", "put 3 b", "put 1_0 1", "put 3 1_0"):
            self.assert_refused(text)

    def test_what_is_no_text(self):
        for thing in NO_TEXTS + [Put(3, 1), ("put", 3, 1), ["put", "3", "1"]]:
            self.assert_refused(thing)


class SameMoveTest(unittest.TestCase):
    def test_word_rod_and_number(self):
        moves = [kind(rod, beads) for kind in KINDS.values() for rod in (0, 1, 11) for beads in (1, 2, 11)]
        again = [kind(rod, beads) for kind in KINDS.values() for rod in (0, 1, 11) for beads in (1, 2, 11)]
        for at, one in enumerate(moves):
            for other_at, other in enumerate(again):
                self.assertIs(same_move(one, other), at == other_at, (one.shown(), other.shown()))
            self.assertIs(same_move(one, one), True)


if __name__ == "__main__":
    unittest.main()
