import unittest

from daysgate.errors import DayError, NoDeed, NoPaper, NoRow, NoRule, NoStay, NoText, NotLet, NoWish

MADE = [NoRule("words"), NoPaper(3), NoStay(4), NotLet(5, 6, -7), NoWish("words"), NoDeed("words"),
        NoText("words"), NoRow("words")]


class Errors(unittest.TestCase):
    def test_each_is_a_day_error_and_a_value_error(self):
        self.assertEqual(DayError.__bases__, (ValueError,))
        for error in MADE:
            with self.subTest(error=error):
                self.assertIsInstance(error, DayError)
                self.assertIsInstance(error, ValueError)

    def test_none_stands_under_another(self):
        for error in MADE:
            for other in MADE:
                if error is not other:
                    with self.subTest(error=error, other=other):
                        self.assertNotIsInstance(error, type(other))

    def test_there_are_eight(self):
        self.assertEqual(len({type(error) for error in MADE}), 8)
        self.assertNotIn(DayError, [type(error) for error in MADE])

    def test_number(self):
        for kind in (NoPaper, NoStay):
            for number in (None, 0, 12):
                with self.subTest(kind=kind, number=number):
                    self.assertEqual(kind(number).number, number)

    def test_not_let(self):
        error = NotLet(5, 6, -7)
        self.assertEqual((error.day, error.number, error.first), (5, 6, -7))

    def test_each_can_be_raised_and_taken_as_a_day_error(self):
        for error in MADE:
            with self.subTest(error=error):
                with self.assertRaises(DayError) as taken:
                    raise error
                self.assertIs(taken.exception, error)
                self.assertTrue(str(error))


if __name__ == "__main__":
    unittest.main()
