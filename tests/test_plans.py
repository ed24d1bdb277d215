"""Plans, held against all rows of so many days and, where numbers are great, against the tests' own sums."""

import time
import unittest

from daysgate.limits import last_day
from daysgate.plans import plan_of
from tests.plain import (
    Draw, TOP, book_of, drawn_great, fault_plainly, rows_of, stays_in, wrong_with_fault,
)

A = [("a", 1)]
AB = [("a", 1), ("b", 3)]
MILLION = 10 ** 6


def best_row(rules, papers, stays, wishes, first, days):
    for row in rows_of(wishes, days):
        if fault_plainly(rules, papers, stays + stays_in(row, first)) is None:
            return list(row)
    return None


def plan_plainly(rules, papers, stays, wishes, first, days):
    row = best_row(rules, papers, stays, wishes, first, days)
    plan = []
    for place, land in enumerate(row):
        day = first + place
        ahead = stays + stays_in(row[:place], first)
        passed = wishes if land is None else wishes[:wishes.index(land)]
        plan.append((day, land, [(wish, fault_plainly(rules, papers, ahead + [(wish, day, day)])) for wish in passed]))
    return plan


def lands_of(plan):
    return [land for day, land, passed in plan]


class Ordinary(unittest.TestCase):
    def test_one_wish(self):
        book = book_of([("row", A, 2, 1)])
        self.assertEqual(plan_of(book, [], ["a"], 4, 4), [
            (4, "a", []), (5, "a", []), (6, None, [("a", (6, 0, 4))]), (7, "a", []),
        ])
        self.assertEqual(plan_of(book, [("a", 2, 3)], ["a"], 4, 3), [
            (4, None, [("a", (4, 0, 2))]), (5, "a", []), (6, "a", []),
        ])

    def test_two_wishes(self):
        rules = [("row", A, 2, 1), ("within", [("b", 1)], 1, 3)]
        self.assertEqual(plan_of(book_of(rules), [], ["a", "b"], 0, 6), [
            (0, "a", []), (1, "a", []), (2, "b", [("a", (2, 0, 0))]), (3, "a", []), (4, "a", []),
            (5, "b", [("a", (5, 0, 3))]),
        ])
        self.assertEqual(plan_of(book_of(rules), [], ["b", "a"], 0, 4), [
            (0, "b", []), (1, "a", [("b", (1, 1, -1))]), (2, "a", [("b", (2, 1, 0))]), (3, "b", []),
        ])
        self.assertEqual(plan_of(book_of([("within", AB, 4, 5)]), [], ["b", "a"], 9, 4), [
            (9, "b", []), (10, "a", [("b", (10, 0, 6))]),
            (11, None, [("b", (11, 0, 7)), ("a", (11, 0, 7))]), (12, None, [("b", (12, 0, 8)), ("a", (12, 0, 8))]),
        ])

    def test_the_least_number_of_a_broken_rule_is_told(self):
        rules = [("within", A, 9, 9), ("row", A, 1, 1), ("since", A, 1, 3)]
        self.assertEqual(plan_of(book_of(rules), [], ["a"], 5, 3), [
            (5, "a", []), (6, None, [("a", (6, 1, 6 - 1))]), (7, None, [("a", (7, 2, 5))]),
        ])

    def test_no_days(self):
        for rules in ([], [("row", A, 2, 1)], [("row", A, 0, 1)]):
            self.assertEqual(plan_of(book_of(rules), [], ["a"], 4, 0), [])
            self.assertEqual(plan_of(book_of(rules), [("b", 3, 9)], ["a", "b"], 10, 0), [])

    def test_one_day(self):
        book = book_of([("row", A, 0, 1)])
        self.assertEqual(plan_of(book, [], ["a"], 4, 1), [(4, None, [("a", (4, 0, 4))])])
        self.assertEqual(plan_of(book, [], ["a", "b"], 4, 1), [(4, "b", [("a", (4, 0, 4))])])
        self.assertEqual(plan_of(book, [], ["b", "a"], 4, 1), [(4, "b", [])])

    def test_sixty_days(self):
        rules = [("within", A, 10, 25), ("row", A, 4, 1)]
        plan = plan_of(book_of(rules), [], ["a"], 0, 60)
        wanted = "aaaa-aaaa-aa--------------"
        self.assertEqual("".join(land or "-" for land in lands_of(plan))[:25], wanted[:25])
        self.assertEqual([day for day, land, passed in plan], list(range(60)))
        for place, (day, land, passed) in enumerate(plan):
            ahead = stays_in(lands_of(plan)[:place], 0)
            fault = fault_plainly(rules, [], ahead + [("a", day, day)])
            self.assertEqual((land, passed), ("a", []) if fault is None else (None, [("a", fault)]))

    def test_sixty_days_and_two_wishes(self):
        rules = [("within", AB, 12, 20), ("since", [("b", 2)], 6, 3)]
        papers = [(0, 30, 33), (1, 40, 41)]
        stays = [("b", 0, 1), ("a", 3, 5)]
        wishes = ["b", "a"]
        plan = plan_of(book_of(rules, papers), stays, wishes, 6, 60)
        row = lands_of(plan)
        self.assertEqual([day for day, land, passed in plan], list(range(6, 66)))
        for place, (day, land, passed) in enumerate(plan):
            ahead = stays + stays_in(row[:place], 6)
            faults = [(wish, fault_plainly(rules, papers, ahead + [(wish, day, day)])) for wish in wishes]
            let = [wish for wish, fault in faults if fault is None] + [None]
            self.assertEqual(land, let[0])
            self.assertEqual(passed, faults[:(wishes + [None]).index(land)])
        self.assertIsNone(fault_plainly(rules, papers, stays + stays_in(row, 6)))
        self.assertEqual({"a", "b", None}, set(row))

    def test_wishes_that_no_rule_counts(self):
        book = book_of([("row", A, 1, 1), ("within", A, 2, 9)])
        self.assertEqual(plan_of(book, [("a", 3, 3)], ["c", "d"], 4, 5), [(day, "c", []) for day in range(4, 9)])
        self.assertEqual(plan_of(book, [("a", 3, 3)], ["d", "c"], 4, 60), [(day, "d", []) for day in range(4, 64)])
        self.assertEqual(plan_of(book, [("a", 3, 3)], ["a", "d", "c"], 4, 2),
                         [(4, "d", [("a", (4, 0, 3))]), (5, "a", [])])

    def test_wishes_that_papers_lift(self):
        rules = [("row", A, 0, 1), ("within", [("b", 1)], 0, 4)]
        papers = [(0, 2, 3), (1, 3, 4)]
        self.assertEqual(plan_of(book_of(rules, papers), [], ["a", "b"], 0, 6), [
            (0, None, [("a", (0, 0, 0)), ("b", (0, 1, -3))]), (1, None, [("a", (1, 0, 1)), ("b", (1, 1, -2))]),
            (2, "a", []), (3, "a", []), (4, "b", [("a", (4, 0, 4))]),
            (5, None, [("a", (5, 0, 5)), ("b", (5, 1, 2))]),
        ])
        self.assertEqual(lands_of(plan_of(book_of(rules, papers), [], ["b", "a"], 0, 6)),
                         [None, None, "a", "b", "b", None])

    def test_a_wish_that_waits(self):
        # To stay out today would let more of the first wish later; the plan takes it today all the same.
        book = book_of([("since", AB, 4, 2)])
        self.assertEqual(lands_of(plan_of(book, [("a", 0, 1)], ["b", "a"], 2, 5)), ["a", "a", None, None, "b"])
        self.assertEqual(lands_of(plan_of(book, [("a", 0, 1)], ["b"], 2, 5)), [None, None, "b", None, None])

    def test_sixty_stays_in_a_book_without_rules(self):
        stays = [("ab"[place % 2], 3 * place, 3 * place + 1) for place in range(60)]
        for days in (0, 1, 5, 60):
            self.assertEqual(plan_of(book_of([]), stays, ["b", "a"], 179, days),
                             [(179 + place, "b", []) for place in range(days)])

    def test_sixty_stays_and_rules(self):
        stays = [("ab"[place % 2], 3 * place, 3 * place + 1) for place in range(60)]
        rules = [("within", AB, 60, 40), ("row", A, 2, 1)]
        self.assertEqual(plan_of(book_of(rules), stays, ["a", "b"], 179, 5),
                         plan_plainly(rules, [], stays, ["a", "b"], 179, 5))

    def test_five_and_six_wishes(self):
        book = book_of([("row", [(name, 1) for name in "abcde"], 0, 1)])
        self.assertEqual(plan_of(book, [], list("abcdef"), 7, 1),
                         [(7, "f", [(name, (7, 0, 7)) for name in "abcde"])])
        self.assertEqual(lands_of(plan_of(book, [], list("abcde"), 7, 2)), [None, None])

    def test_days_behind_the_greatest(self):
        book = book_of([("row", A, 0, 1)], [(0, 0, TOP)])
        self.assertEqual(plan_of(book, [], ["a"], TOP, 3), [
            (TOP, "a", []), (TOP + 1, None, [("a", (TOP + 1, 0, TOP + 1))]),
            (TOP + 2, None, [("a", (TOP + 2, 0, TOP + 2))]),
        ])
        self.assertEqual(lands_of(plan_of(book_of([("within", A, 3, 5)]), [("a", TOP - 1, TOP - 1)], ["a"], TOP, 60)),
                         (["a", "a", None, None, "a"] * 12))
        self.assertEqual(plan_of(book_of([]), [("a", 0, TOP - 1)], ["a"], TOP, 60),
                         [(TOP + place, "a", []) for place in range(60)])


class HandedIn(unittest.TestCase):
    def test_the_lists_handed_in_stay(self):
        stays = [("a", 0, 1)]
        wishes = ["a", "b"]
        plan_of(book_of([("row", A, 2, 1)]), stays, wishes, 2, 9)
        self.assertEqual((stays, wishes), ([("a", 0, 1)], ["a", "b"]))

    def test_what_is_told_is_the_askers_own(self):
        book = book_of([("row", A, 1, 1)])
        stays = [("a", 0, 0)]
        wishes = ["a", "b"]
        plan = plan_of(book, stays, wishes, 1, 3)
        wanted = [(1, "b", [("a", (1, 0, 0))]), (2, "a", []), (3, "b", [("a", (3, 0, 2))])]
        self.assertEqual(plan, wanted)
        other = plan_of(book, stays, wishes, 1, 3)
        plan[0][2].clear()
        plan[1][2].append("x")
        self.assertEqual(plan[2], wanted[2])
        plan.clear()
        self.assertEqual(other, wanted)
        wishes.reverse()
        stays.clear()
        self.assertEqual(other, wanted)
        self.assertEqual(plan_of(book, [("a", 0, 0)], ["a", "b"], 1, 3), wanted)

    def test_the_lists_of_passed_wishes_are_each_their_own(self):
        plan = plan_of(book_of([]), [], ["a"], 0, 3)
        plan[0][2].append("x")
        self.assertEqual(plan[1:], [(1, "a", []), (2, "a", [])])


class AllRows(unittest.TestCase):
    def check(self, draw, wishes, days, papers_too=True):
        rules = draw.rules(draw.whole(1, 4), (0, 9), (1, 7))
        papers = draw.papers(draw.whole(0, 4), len(rules), 25, 4) if papers_too else []
        stays = draw.stays(draw.whole(0, 4), 4, 4, 2)
        while fault_plainly(rules, papers, stays) is not None:
            stays.pop()
        first = (stays[-1][2] + 1 if stays else 0) + draw.chance.choice([0, 0, 1, draw.whole(0, 4)])
        plan = plan_of(book_of(rules, papers), stays, list(wishes), first, days)
        self.assertEqual(plan, plan_plainly(rules, papers, stays, wishes, first, days),
                         (rules, papers, stays, wishes, first, days))
        return plan

    def test_one_and_two_wishes(self):
        met = {}
        for number in range(500):
            draw = Draw(60000 + number)
            wishes = draw.chance.sample(["a", "b", "c", "d"], draw.whole(1, 2))
            plan = self.check(draw, wishes, draw.whole(0, 6), number % 3 > 0)
            for day, land, passed in plan:
                place = None if land is None else wishes.index(land)
                met[place] = met.get(place, 0) + 1
        # Each way it may go is met often enough.
        self.assertEqual(sorted(met, key=str), [0, 1, None])
        self.assertGreater(min(met.values()), 100)

    def test_three_and_four_wishes(self):
        for number in range(250):
            draw = Draw(61000 + number)
            wishes = draw.chance.sample(["a", "b", "c", "d"], draw.whole(3, 4))
            self.check(draw, wishes, draw.whole(0, 4))

    def test_four_wishes_and_six_days(self):
        for number in range(12):
            draw = Draw(62000 + number)
            self.check(draw, draw.chance.sample(["a", "b", "c", "d"], 4), 6)


class Great(unittest.TestCase):
    def check(self, rules, papers, stays, wishes, first, days):
        begin = time.perf_counter()
        plan = plan_of(book_of(rules, papers), stays, wishes, first, days)
        self.assertLess(time.perf_counter() - begin, 2)
        self.assertEqual([day for day, land, passed in plan], list(range(first, first + days)))
        ahead = list(stays)
        for day, land, passed in plan:
            self.assertEqual([wish for wish, fault in passed], wishes[:(wishes + [None]).index(land)])
            for wish, fault in passed:
                self.assertIsNotNone(fault)
                self.assertIsNone(wrong_with_fault(rules, papers, ahead + [(wish, day, day)], fault))
            if land is not None:
                ahead.append((land, day, day))
                self.assertIsNone(wrong_with_fault(rules, papers, ahead, None))
        return lands_of(plan)

    def nearly_full(self, rules, papers, stays, wishes, first):
        """A day on which rules are about to be broken, once a stay is there that lasts as long as it may."""
        land = wishes[-1]
        last = last_day(book_of(rules, papers), stays, land, first)[0]
        if last is None or last < first:
            return first
        if last - 2 <= TOP and first <= last - 2:
            stays.append((land, first, last - 2))
        return last - 1

    def test_great_spans_leaves_and_mosts(self):
        stays = [("a", 0, 4 * MILLION - 1)]
        for rule in (("within", A, 4 * MILLION + 2, 10 ** 7), ("since", A, 4 * MILLION + 2, 10 ** 7)):
            self.assertEqual(self.check([rule], [], stays, ["a"], 8 * MILLION, 4), ["a", "a", None, None])
        # The leave ends with the day ahead; the span slides out of the first stay day by day.
        self.assertEqual(self.check([("since", A, 4 * MILLION, 10 ** 6)], [], stays, ["a"], 5 * MILLION, 3), ["a"] * 3)
        self.assertEqual(self.check([("since", A, 4 * MILLION, 10 ** 6)], [], stays, ["a"], 5 * MILLION - 1, 3),
                         [None, "a", "a"])
        self.assertEqual(self.check([("within", A, 4 * MILLION, 10 ** 7)], [], stays, ["a", "b"], 10 ** 7 - 2, 4),
                         ["b", "b", "a", "a"])
        stays = [("a", TOP - 10, TOP - 1)]
        self.assertEqual(self.check([("within", A, 12, TOP), ("row", A, 11, 1)], [], stays, ["a"], TOP, 5),
                         ["a", None, "a", None, None])

    def test_drawn(self):
        met = {}
        for number in range(300):
            rules, papers, stays = drawn_great(70000 + number, (1, 19))
            draw = Draw(number)
            while wrong_with_fault(rules, papers, stays, None) is not None:
                stays.pop()
            wishes = draw.chance.sample(["a", "b", "c"], draw.whole(1, 3))
            first = (stays[-1][2] + 1 if stays else 0) + draw.chance.choice([0, 0, 1, draw.whole(0, 10 ** 7)])
            if number % 3 and first <= TOP:
                first = self.nearly_full(rules, papers, stays, wishes, first)
            if first <= TOP:
                for land in self.check(rules, papers, stays, wishes, first, draw.whole(0, 6)):
                    met[land] = met.get(land, 0) + 1
        self.assertGreater(min(met.values()), 30)
        self.assertEqual(len(met), 4)

    def test_at_a_paper_and_a_span_that_end(self):
        for number in range(100):
            draw = Draw(71000 + number)
            span = draw.whole(10 ** 6, 10 ** 7)
            rules = [("within", AB, 300 + draw.whole(0, 6), span), ("since", AB, 310, 10 ** 6)]
            stays = [("a", 50, 249), ("b", 400, 432)]
            first = draw.chance.choice([50, 249, 400, 432]) + span - draw.whole(0, 4)
            papers = [(draw.whole(0, 1), first + draw.whole(0, 3), first + 4)]
            self.check(rules, papers, stays, ["b", "a"], first, 8)

    def test_sixty_days_in_time(self):
        stays = [("ab"[place % 2], 10 ** 6 * place, 10 ** 6 * place + 999) for place in range(19)]
        rules = [("within", AB, 30000, 10 ** 7), ("since", AB, 38020, 10 ** 6), ("row", A, 1000, 1),
                 ("within", A, 1009, 2000)]
        papers = [(place % 4, 10 ** 6 * place + 50, 10 ** 6 * place + 90) for place in range(12)]
        row = self.check(rules, papers, stays, ["a", "b"], stays[-1][2] + 1, 60)
        self.assertEqual(row, ["b"] + ["a"] * 9 + ["b"] * 50)


if __name__ == "__main__":
    unittest.main()
