"""What a plan refuses, and in which order."""

import unittest

from daysgate.errors import DayError, NoDeed, NoPaper, NoRow, NoRule, NoStay, NoText, NotLet, NoWish
from daysgate.plans import plan_of
from tests.plain import TOP, book_of

OTHERS = [NoDeed, NoPaper, NoRow, NoRule, NoStay, NoText, NotLet, NoWish]

BOOK = book_of([("within", [("a", 1)], 5, 10), ("row", [("b", 2)], 4, 1)], [(0, 30, 30)])
LET = [[], [("a", 0, 4)], [("a", 0, 0), ("b", 7, 8), ("c", 20, 25)], [("c", 5 * day, 5 * day) for day in range(60)]]
BROKEN = [
    ([("a", 2, 9)], (7, 0, -2)),
    ([("b", 2, 9)], (4, 1, 2)),
    ([("a", 0, 4), ("b", 6, 6), ("a", 9, 9), ("b", 900, 905)], (9, 0, 0)),
]

NO_DAYS = [True, False, None, "", "9", "900", [], [900], (), (900,), -1, -TOP, TOP + 1, 10 ** 30]
NO_WISHES = [
    None, True, False, 0, 1, "", "a", "ab", (), ("a",), ("a", "b"), [], list("abcdefg"), list("abcdefgh"),
    ["a", "a"], ["a", "b", "a"], ["a", "b", "c", "d", "e", "e"], [""], ["A"], ["a", "B"], ["abcdefghi"], ["a1"], ["a "],
    [" a"], ["a\n"], ["\u00e9"], ["a b"], [None], ["a", None], [True], [0], [["a"]], [("a",)], [["a", "b"]], ["-"],
]


class Refused(unittest.TestCase):
    def refusal(self, kind, book, stays, wishes, first, days=3):
        kept = (list(stays), repr(wishes))
        with self.subTest(stays=stays, wishes=wishes, first=first):
            with self.assertRaises(kind) as taken:
                plan_of(book, stays, wishes, first, days)
            error = taken.exception
            self.assertIs(type(error), kind)
            self.assertIsInstance(error, DayError)
            self.assertIsInstance(error, ValueError)
            self.assertEqual([other for other in OTHERS if isinstance(error, other)], [kind])
            self.assertEqual((list(stays), repr(wishes)), kept)
            return error

    def no_stay(self, stays, wishes, first, book=BOOK):
        self.assertEqual(self.refusal(NoStay, book, stays, wishes, first).number, len(stays))

    def not_let(self, stays, wishes, first, fault):
        error = self.refusal(NotLet, BOOK, stays, wishes, first)
        self.assertEqual((error.day, error.number, error.first), fault)

    def test_stays_that_are_not_let_go_ahead_of_all_else(self):
        for stays, fault in BROKEN:
            self.not_let(stays, ["a"], TOP, fault)
            for first in NO_DAYS + [0, 2, stays[-1][2]]:
                self.not_let(stays, ["a"], first, fault)
                self.not_let(stays, [], first, fault)
            for wishes in NO_WISHES:
                self.not_let(stays, wishes, 950, fault)
                self.not_let(stays, wishes, 0, fault)

    def test_no_days(self):
        for stays in LET:
            for first in NO_DAYS:
                self.no_stay(stays, ["a"], first)
                self.no_stay(stays, ["a"], first, book_of([]))

    def test_days_that_are_not_behind_all_stays(self):
        for stays in LET[1:]:
            for first in range(stays[-1][2] + 1):
                self.no_stay(stays, ["a"], first)
                self.no_stay(stays, ["c"], first, book_of([]))
        self.no_stay([("c", 0, TOP)], ["c"], TOP)
        self.no_stay([("c", TOP, TOP)], ["c"], 5)

    def test_a_wrong_day_goes_ahead_of_wrong_wishes(self):
        for stays in LET:
            for wishes in NO_WISHES:
                self.no_stay(stays, wishes, -1)
                self.no_stay(stays, wishes, None)
                if stays:
                    self.no_stay(stays, wishes, stays[-1][2])

    def test_no_wishes(self):
        for stays in LET:
            for wishes in NO_WISHES:
                for days in (0, 1, 60):
                    self.refusal(NoWish, BOOK, stays, wishes, 900, days)
                self.refusal(NoWish, book_of([]), stays, wishes, 900)

    def test_what_is_at_the_bounds_is_not_refused(self):
        for stays in LET:
            for wishes in (["a"], list("abcdef"), ["abcdefgh"], ["z", "zz"]):
                first = stays[-1][2] + 1 if stays else 0
                self.assertEqual(len(plan_of(BOOK, stays, wishes, first, 1)), 1)
                self.assertEqual(len(plan_of(BOOK, stays, wishes, TOP, 1)), 1)

    def test_the_same_again_behind_a_refusal(self):
        stays = [("a", 0, 4)]
        wishes = ["a", "b"]
        wanted = [(8, "b", [("a", (8, 0, -1))]), (9, "b", [("a", (9, 0, 0))]), (10, "a", [])]
        for turn in range(3):
            self.assertEqual(plan_of(BOOK, stays, wishes, 8, 3), wanted)
            self.no_stay(stays, wishes, 4)
            wishes.append("b")
            self.refusal(NoWish, BOOK, stays, wishes, 8)
            wishes.pop()
            stays.append(("a", 6, 6))
            self.not_let(stays, wishes, 8, (6, 0, -3))
            stays.pop()


if __name__ == "__main__":
    unittest.main()
