import unittest

from beadframe import errors

WITH_FIELDS = {
    "TooGreat": ["rod"],
    "Stuck": ["rod", "at"],
    "NoRow": ["row"],
    "Spoilt": ["row", "why"],
}
OF_A_TEXT = ["NoLayout", "NoStanding", "NoMove", "Below", "NoDivisor", "Between", "TooLong", "NoBack", "NoName", "NoSay"]


def classes():
    return [getattr(errors, name) for name in list(WITH_FIELDS) + OF_A_TEXT]


class ErrorsTest(unittest.TestCase):
    def test_there_are_fourteen_under_frame_error(self):
        self.assertEqual(len(set(classes())), 14)
        self.assertTrue(issubclass(errors.FrameError, ValueError))
        for error in classes():
            self.assertTrue(issubclass(error, errors.FrameError), error)
            self.assertIsNot(error, errors.FrameError)
            self.assertTrue(issubclass(error, ValueError), error)

    def test_none_stands_under_another_one(self):
        for one in classes():
            for other in classes():
                self.assertEqual(issubclass(one, other), one is other, (one, other))

    def test_fields_are_read_by_their_names(self):
        values = [7, "below"]
        for name, fields in WITH_FIELDS.items():
            error = getattr(errors, name)(*values[:len(fields)])
            for field, value in zip(fields, values):
                self.assertEqual(getattr(error, field), value, (name, field))

    def test_fields_come_in_the_order_told(self):
        stuck = errors.Stuck(3, 5)
        self.assertEqual((stuck.rod, stuck.at), (3, 5))
        spoilt = errors.Spoilt(4, "great")
        self.assertEqual((spoilt.row, spoilt.why), (4, "great"))

    def test_a_move_alone_is_stuck_at_none(self):
        stuck = errors.Stuck(3, None)
        self.assertEqual(stuck.rod, 3)
        self.assertIsNone(stuck.at)

    def test_made_of_just_the_fields(self):
        for name, fields in WITH_FIELDS.items():
            error = getattr(errors, name)
            for wrong in (len(fields) - 1, len(fields) + 1):
                with self.assertRaises(TypeError, msg=(name, wrong)):
                    error(*[0] * wrong)

    def test_others_are_made_of_a_text(self):
        for name in OF_A_TEXT:
            self.assertEqual(str(getattr(errors, name)("some words")), "some words", name)

    def test_they_are_raised_and_taken(self):
        for name in OF_A_TEXT:
            with self.assertRaises(errors.FrameError):
                raise getattr(errors, name)("some words")
        for name, fields in WITH_FIELDS.items():
            with self.assertRaises(errors.FrameError):
                raise getattr(errors, name)(*[1] * len(fields))


if __name__ == "__main__":
    unittest.main()
