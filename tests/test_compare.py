"""Two books, held against all rows of days tried one by one."""

import unittest

from daysgate.compare import parted
from daysgate.errors import DayError, NoDeed, NoPaper, NoRow, NoRule, NoStay, NoText, NotLet, NoWish
from tests.plain import Draw, TOP, book_of, fault_plainly, rows_of, stays_in

OTHERS = [NoDeed, NoPaper, NoRow, NoRule, NoStay, NoText, NotLet, NoWish]
A = [("a", 1)]
AB = [("a", 1), ("b", 2)]

NO_LANDS = [
    None, True, False, 0, 1, "", "a", "ab", (), ("a",), ("a", "b"), [], ["a", "b", "c"], list("abcdefg"), ["a", "a"],
    ["a", "b", "a"], [""], ["A"], ["a", "B"], ["abcdefghi"], ["a1"], ["a "], [" a"], ["a\n"], ["\u00e9"], ["a b"], [None],
    ["a", None], [True], [0], [["a"]], [("a",)], ["-"],
]


def parted_plainly(one, other, lands, days):
    """one and other are pairs of rules and papers, as the tests tell them."""
    for many in range(days + 1):
        for row in rows_of(lands, many):
            stays = stays_in(row, 0)
            if (fault_plainly(*one, stays) is None) != (fault_plainly(*other, stays) is None):
                return list(row)
    return None


class Ordinary(unittest.TestCase):
    def check(self, one, other, lands, days, wanted):
        for first, second in ((one, other), (other, one)):
            self.assertEqual(parted(book_of(*first), book_of(*second), lands, days), wanted)
        self.assertEqual(parted_plainly(one, other, lands, days), wanted)

    def test_another_most(self):
        for most in range(4):
            one = ([("row", A, most, 1)], [])
            other = ([("row", A, most + 1, 1)], [])
            for days in range(5):
                self.check(one, other, ["a"], days, ["a"] * (most + 1) if days > most else None)
                self.check(one, other, ["b"], days, None)
                self.check(one, other, ["b", "a"], days, ["a"] * (most + 1) if days > most else None)

    def test_another_kind(self):
        row = ([("row", A, 1, 1)], [])
        since = ([("since", A, 1, 2)], [])
        within = ([("within", A, 1, 2)], [])
        # With a day out amid it is no more in a row, but no leave of two days either.
        self.check(row, since, ["a"], 4, ["a", None, "a"])
        self.check(row, since, ["a"], 2, None)
        self.check(row, within, ["a"], 4, None)
        self.check(row, ([("within", A, 1, 3)], []), ["a"], 4, ["a", None, "a"])
        self.check(row, ([("within", A, 1, 4)], []), ["a"], 4, ["a", None, "a"])
        self.check(([("within", A, 1, 3)], []), ([("within", A, 1, 4)], []), ["a"], 4, ["a", None, None, "a"])
        self.check(([("within", A, 1, 3)], []), ([("within", A, 1, 4)], []), ["a"], 3, None)

    def test_the_first_of_several_shortest_ones(self):
        one = ([("row", AB, 2, 1)], [])
        other = ([("row", AB, 1, 1)], [])
        self.check(one, other, ["a", "b"], 4, ["b"])
        self.check(one, ([("row", A, 2, 1)], []), ["a", "b"], 4, ["a", "b"])
        self.check(one, ([("row", A, 2, 1)], []), ["b", "a"], 4, ["b", "b"])
        self.check(one, ([("row", A, 2, 1)], []), ["b"], 4, ["b", "b"])
        self.check(one, ([("row", A, 2, 1)], []), ["a"], 4, None)

    def test_a_row_that_begins_with_days_out(self):
        one = ([("row", A, 0, 1)], [(0, 2, 2)])
        self.check(one, ([("row", A, 0, 1)], []), ["a"], 4, [None, None, "a"])
        self.check(one, ([("row", A, 0, 1)], []), ["b", "a"], 4, ["b", "b", "a"])
        self.check(one, ([("row", A, 0, 1)], []), ["a", "b"], 4, ["b", "b", "a"])
        self.check(one, ([("row", A, 0, 1)], []), ["a"], 2, None)
        self.check(one, ([("row", A, 0, 1)], [(0, 2, TOP)]), ["a"], 4, [None, None, "a", "a"])
        self.check(one, ([("row", A, 0, 1)], [(0, 0, 2)]), ["a"], 4, ["a"])

    def test_papers_on_some_of_the_days(self):
        rules = [("within", AB, 2, 3), ("row", [("b", 1)], 1, 1)]
        self.check((rules, []), (rules, [(0, 1, 1)]), ["a", "b"], 4, ["a", "b"])
        self.check((rules, []), (rules, [(0, 1, 1)]), ["a"], 4, ["a", "a", "a"])
        self.check((rules, []), (rules, [(1, 1, 2)]), ["b", "a"], 4, None)
        self.check((rules, [(0, 0, 9)]), (rules, [(0, 0, 9), (1, 3, 3)]), ["b"], 4, ["b", None, "b", "b"])
        self.check((rules, [(0, 4, 9)]), (rules, []), ["a", "b"], 4, None)

    def test_books_that_are_alike(self):
        for rules in ([("row", A, 1, 1)], [("within", AB, 3, 3), ("since", A, 2, 2)]):
            for days in range(5):
                self.check((rules, []), (rules, []), ["a", "b"], days, None)
                self.check((rules, []), (rules[::-1], []), ["a"], days, None)
        # A row and a since with a leave of 1, twice the same rule, a rule that nothing breaks in four days.
        self.check(([("row", A, 1, 1)], []), ([("since", A, 1, 1)], []), ["a"], 4, None)
        self.check(([("row", A, 1, 1)], []), ([("row", A, 1, 1), ("row", A, 1, 1)], []), ["a"], 4, None)
        self.check(([("row", A, 4, 1)], []), ([], []), ["a"], 4, None)
        # They break other rules, but on the same rows.
        self.check(([("within", A, 0, 9)], []), ([("within", A, 5, 9), ("row", A, 0, 1)], []), ["a"], 4, None)

    def test_books_without_rules(self):
        for days in range(5):
            self.check(([], []), ([], []), ["a", "b"], days, None)
            self.check(([], []), ([("row", A, 0, 1)], []), ["b", "a"], days, ["a"] if days else None)
            self.check(([], []), ([("row", A, 2, 1)], []), ["b", "a"], days, ["a"] * 3 if days > 2 else None)

    def test_great_mosts(self):
        self.check(([("row", A, 10 ** 7, 1)], []), ([("row", A, 4, 1)], []), ["a"], 4, None)
        self.check(([("row", A, 10 ** 7, 1)], []), ([("row", A, 3, 1)], []), ["a"], 4, ["a"] * 4)

    def test_the_lists_handed_in_stay_and_the_told_one_is_the_askers_own(self):
        one = book_of([("row", A, 1, 1)])
        lands = ["b", "a"]
        told = parted(one, book_of([]), lands, 4)
        self.assertEqual((told, lands), (["a", "a"], ["b", "a"]))
        told.clear()
        lands.clear()
        self.assertEqual(parted(one, book_of([]), ["b", "a"], 4), ["a", "a"])


class AllRows(unittest.TestCase):
    def test_drawn(self):
        met = {}
        for number in range(700):
            draw = Draw(20000 + number)
            rules = draw.rules(draw.whole(0, 3), (0, 6), (1, 5))
            papers = draw.papers(draw.whole(0, 3), len(rules), 4, 2)
            others = list(rules) if number % 2 else draw.rules(draw.whole(0, 3), (0, 6), (1, 5))
            if number % 4 == 3 and others:
                kind, lands, most, days = others[-1]
                others[-1] = (kind, lands, most + 1, days) if draw.whole(0, 1) or kind == "row" else (
                    kind, lands, most, days + 1)
            other_papers = draw.papers(draw.whole(0, 3), len(others), 4, 2) if number % 3 else papers
            if any(paper[0] >= len(others) for paper in other_papers):
                other_papers = []
            lands = draw.chance.sample(["a", "b", "c", "d"], draw.whole(1, 2))
            days = draw.chance.choice([0, 1, 2, 3, 4, 4, 4])
            told = parted(book_of(rules, papers), book_of(others, other_papers), lands, days)
            self.assertEqual(told, parted_plainly((rules, papers), (others, other_papers), lands, days),
                             (rules, papers, others, other_papers, lands, days))
            many = None if told is None else len(told)
            met[many] = met.get(many, 0) + 1
        # Rows of each length are met, and books that are alike.
        self.assertEqual(sorted(met, key=str), [1, 2, 3, 4, None])
        self.assertGreater(min(met.values()), 10)


class Refused(unittest.TestCase):
    def test_lands_that_are_none_such(self):
        book = book_of([("row", A, 1, 1)])
        for lands in NO_LANDS:
            for days in (0, 1, 4):
                for other in (book, book_of([])):
                    with self.subTest(lands=lands, days=days):
                        kept = repr(lands)
                        with self.assertRaises(NoWish) as taken:
                            parted(book, other, lands, days)
                        error = taken.exception
                        self.assertIs(type(error), NoWish)
                        self.assertIsInstance(error, DayError)
                        self.assertIsInstance(error, ValueError)
                        self.assertEqual([kind for kind in OTHERS if isinstance(error, kind)], [NoWish])
                        self.assertEqual(repr(lands), kept)

    def test_names_at_the_bounds(self):
        for lands in (["a"], ["abcdefgh"], ["z", "zz"]):
            self.assertIsNone(parted(book_of([]), book_of([]), lands, 4))


if __name__ == "__main__":
    unittest.main()
