import unittest

from wildtakes import errors

REFUSALS = (
    errors.BadProgram, errors.BadText, errors.BadRoom, errors.BadOrder, errors.BadMeetings,
    errors.NoEvent, errors.NotEnded, errors.TooMany, errors.Wild,
)


class Errors(unittest.TestCase):
    def test_take_error_is_a_lookup_error(self):
        self.assertEqual(errors.TakeError.__bases__, (LookupError,))

    def test_each_refusal_stands_straight_below_take_error(self):
        for refusal in REFUSALS:
            with self.subTest(refusal=refusal.__name__):
                self.assertEqual(refusal.__bases__, (errors.TakeError,))


if __name__ == "__main__":
    unittest.main()
