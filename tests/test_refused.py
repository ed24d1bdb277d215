"""What the questions for a last day and a first day back refuse."""

import unittest

from daysgate.errors import DayError, NoDeed, NoPaper, NoRow, NoRule, NoStay, NoText, NotLet, NoWish
from daysgate.limits import first_back, last_day
from tests.plain import TOP, book_of

ASKED = [last_day, first_back]
OTHERS = [NoDeed, NoPaper, NoRow, NoRule, NoStay, NoText, NotLet, NoWish]

BOOK = book_of([("within", [("a", 1)], 5, 10), ("row", [("b", 2)], 4, 1)], [(0, 30, 30)])
# Stays that are let, with the fewest and most that there may be.
LET = [[], [("a", 0, 4)], [("a", 0, 0), ("b", 7, 8), ("c", 20, 25)], [("c", 5 * day, 5 * day) for day in range(60)]]
BROKEN = [
    ([("a", 2, 9)], (7, 0, -2)),
    ([("b", 2, 9)], (4, 1, 2)),
    ([("a", 0, 4), ("b", 6, 6), ("a", 9, 9), ("b", 900, 905)], (9, 0, 0)),
    ([("a", 0, TOP)], (5, 0, -4)),
]

NO_DAYS = [True, False, None, "", "9", "900", [], [900], (), (900,), -1, -TOP, TOP + 1, 10 ** 30]
NO_LANDS = ["", "abcdefghi", "A", "a1", "1", "a b", " a", "a ", "a\n", "\u00e9", "-", None, True, False, 0, 5, [], ["a"],
            ("a",), ()]


class Refused(unittest.TestCase):
    def refusal(self, kind, asked, book, stays, land, first):
        kept = list(stays)
        with self.subTest(asked=asked, stays=stays, land=land, first=first):
            with self.assertRaises(kind) as taken:
                asked(book, stays, land, first)
            error = taken.exception
            self.assertIs(type(error), kind)
            self.assertIsInstance(error, DayError)
            self.assertIsInstance(error, ValueError)
            self.assertEqual([other for other in OTHERS if isinstance(error, other)], [kind])
            self.assertEqual(stays, kept)
            return error

    def no_stay(self, stays, land, first):
        for asked in ASKED:
            error = self.refusal(NoStay, asked, BOOK, stays, land, first)
            self.assertEqual(error.number, len(stays))

    def not_let(self, stays, land, first, fault):
        for asked in ASKED:
            error = self.refusal(NotLet, asked, BOOK, stays, land, first)
            self.assertEqual((error.day, error.number, error.first), fault)

    def test_stays_that_are_not_let(self):
        for stays, fault in BROKEN:
            self.not_let(stays, "a", TOP, fault)
            self.not_let(stays, "c", TOP, fault)

    def test_not_let_goes_ahead_of_a_wrong_day_or_land(self):
        for stays, fault in BROKEN:
            for first in NO_DAYS + [0, 2, stays[-1][2]]:
                self.not_let(stays, "a", first, fault)
                self.not_let(stays, "A", first, fault)
            for land in NO_LANDS:
                self.not_let(stays, land, TOP, fault)

    def test_days_that_are_none(self):
        for stays in LET:
            for first in NO_DAYS:
                self.no_stay(stays, "a", first)
                self.no_stay(stays, "c", first)

    def test_days_that_are_not_behind_all_stays(self):
        for stays in LET[1:]:
            for first in sorted({0, 1, stays[-1][1], stays[-1][2] - 1, stays[-1][2]}):
                if 0 <= first <= stays[-1][2]:
                    self.no_stay(stays, "a", first)
                    self.no_stay(stays, "d", first)
        self.no_stay([("c", 0, TOP)], "c", TOP)
        self.no_stay([("c", TOP, TOP)], "c", TOP)
        self.no_stay([("c", TOP, TOP)], "c", 5)

    def test_days_at_the_bounds_are_none_of_these(self):
        for asked in ASKED:
            asked(BOOK, [], "a", 0)
            asked(BOOK, [], "a", TOP - 134)
            for stays in LET[1:]:
                asked(BOOK, stays, "a", stays[-1][2] + 1)

    def test_lands_that_are_no_names(self):
        for stays in LET:
            for land in NO_LANDS:
                self.no_stay(stays, land, 900)

    def test_a_wrong_land_and_a_wrong_day(self):
        for stays in LET:
            self.no_stay(stays, None, None)
            self.no_stay(stays, "A", -1)

    def test_the_same_without_rules(self):
        for asked in ASKED:
            for stays in LET:
                for land, first in (("A", 900), ("a", -1), ("a", True), (None, TOP + 1)):
                    error = self.refusal(NoStay, asked, book_of([]), stays, land, first)
                    self.assertEqual(error.number, len(stays))

    def test_the_same_again_behind_a_refusal(self):
        stays = [("a", 0, 4)]
        for turn in range(3):
            self.assertEqual(last_day(BOOK, stays, "a", 8), (7, (8, 0, -1)))
            self.assertEqual(first_back(BOOK, stays, "a", 8), 10)
            self.no_stay(stays, "a", 4)
            self.no_stay(stays, "A", 8)
            stays.append(("a", 6, 6))
            self.not_let(stays, "a", 8, (6, 0, -3))
            stays.pop()


if __name__ == "__main__":
    unittest.main()
