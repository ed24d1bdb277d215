"""The days on which a count is not the same for two lists of stays."""

import time
import unittest

from daysgate.days import holds
from daysgate.diary import changed_days
from tests.plain import (
    Draw, TOP, book_of, changed_plainly, count_plainly, counted_stretches, drawn_great, great_count,
)

A = [("a", 1)]
AB = [("a", 1), ("b", 3)]
MILLION = 10 ** 6
KINDS = [("within", AB, 5, 4), ("since", AB, 5, 4), ("row", AB, 5, 1)]
PAPERS = [[], [(0, 6, 7)], [(0, 0, 3), (0, 9, 9), (0, 12, 14)]]


def edited(draw, stays):
    """Other stays: one more, fewer, longer, shorter, moved, of another land; some of these at once."""
    found = list(stays)
    for turn in range(draw.whole(1, 2)):
        if not found:
            return [("a", 3, 5)]
        place = draw.whole(0, len(found) - 1)
        land, first, last = found[place]
        least = found[place - 1][2] + 1 if place else 0
        greatest = found[place + 1][1] - 1 if place + 1 < len(found) else min(TOP, last + 9)
        begin = draw.whole(least, greatest)
        days = (begin, draw.whole(begin, greatest))
        change = draw.chance.choice(["fewer", "longer", "shorter", "moved", "land", "cut"])
        if change == "fewer":
            found[place:place + 1] = []
        elif change == "longer":
            found[place] = (land, draw.whole(least, first), draw.whole(last, greatest))
        elif change == "shorter":
            begin = draw.whole(first, last)
            found[place] = (land, begin, draw.whole(begin, last))
        elif change == "moved":
            found[place] = (land,) + days
        elif change == "land":
            found[place] = (draw.chance.choice(["a", "b", "c", "d"]), first, last)
        elif first < last:
            found[place:place + 1] = [(land, first, first), (land, first + 1, last)]
    return found


class Ordinary(unittest.TestCase):
    def test_a_stay_more(self):
        for rule, papers, wanted in (
            (("within", A, 0, 4), [], [(5, 9)]),
            (("since", A, 0, 4), [], [(5, 9)]),
            (("row", A, 0, 1), [], [(5, 6)]),
            (("within", A, 0, 1), [], [(5, 6)]),
            (("within", A, 0, 100), [], [(5, 105)]),
            (("since", A, 0, 100), [], [(5, 105)]),
            (("within", A, 0, 4), [(0, 5, 5)], [(6, 9)]),
            (("since", A, 0, 4), [(0, 6, 6)], [(5, 8)]),
            (("row", A, 0, 1), [(0, 5, 6)], []),
            (("within", [("b", 1)], 0, 4), [], []),
        ):
            book = book_of([rule], papers)
            self.assertEqual(changed_days(book, 0, [], [("a", 5, 6)]), wanted)
            self.assertEqual(changed_days(book, 0, [("a", 5, 6)], []), wanted)

    def test_the_same_lists(self):
        for rule in KINDS:
            for stays in ([], [("a", 0, 0)], [("a", 0, 4), ("b", 5, 9), ("a", 20, 20)]):
                self.assertEqual(changed_days(book_of([rule]), 0, stays, list(stays)), [])

    def test_the_same_days_in_other_stays(self):
        for rule in KINDS:
            book = book_of([rule])
            self.assertEqual(changed_days(book, 0, [("a", 2, 9)], [("a", 2, 4), ("a", 5, 9)]), [])
            self.assertEqual(changed_days(book, 0, [("a", 2, 9)], [("a", 2, 4), ("a", 6, 9)]) == [], False)
            self.assertEqual(changed_days(book, 0, [("c", 2, 9)], [("d", 3, 4)]), [])

    def test_lands_of_the_same_weight(self):
        book = book_of([("since", [("a", 2), ("b", 2), ("c", 3)], 9, 4)])
        self.assertEqual(changed_days(book, 0, [("a", 2, 9)], [("b", 2, 9)]), [])
        self.assertEqual(changed_days(book, 0, [("a", 2, 9)], [("c", 2, 9)]), [(2, 12)])

    def test_counts_that_run_through_one_another(self):
        # Three days in a weigh as much as one in b: the counts meet on one day alone, and part again.
        book = book_of([("within", AB, 9, 30)])
        self.assertEqual(changed_days(book, 0, [("b", 4, 4)], [("a", 2, 8)]), [(2, 3), (5, 37)])
        book = book_of([("within", AB, 9, 1000)])
        self.assertEqual(changed_days(book, 0, [("b", 0, 9)], [("a", 0, 99)]), [(0, 28), (30, 1098)])
        self.assertEqual(changed_days(book, 0, [("a", 0, 99)], [("b", 0, 9)]), [(0, 28), (30, 1098)])
        book = book_of([("since", AB, 9, 1000)])
        self.assertEqual(changed_days(book, 0, [("b", 0, 9)], [("a", 0, 29)]), [(0, 28), (1009, 1028)])

    def test_counts_that_would_meet_between_two_days(self):
        book = book_of([("within", [("a", 2), ("b", 1)], 9, 30)])
        self.assertEqual(changed_days(book, 0, [("b", 4, 4)], [("a", 5, 9)]), [(4, 38)])
        self.assertEqual(changed_days(book, 0, [("b", 0, 4)], [("a", 4, 9)]), [(0, 38)])

    def test_a_leave_that_is_no_more(self):
        # A stay amid two others: behind the second one the count holds the first one too.
        book = book_of([("since", A, 9, 5)])
        old = [("a", 0, 1), ("a", 8, 9)]
        self.assertEqual(changed_days(book, 0, old, [("a", 0, 1), ("a", 4, 4), ("a", 8, 9)]), [(4, 13)])
        self.assertEqual(changed_days(book, 0, old, [("a", 0, 1), ("a", 7, 9)]), [(7, 13)])
        self.assertEqual(changed_days(book, 0, old, [("a", 0, 2), ("a", 8, 9)]), [(2, 6)])
        self.assertEqual(changed_days(book, 0, old, [("a", 0, 3), ("a", 8, 9)]), [(2, 13)])

    def test_behind_the_last_stay(self):
        for many in (1, 2, 7):
            within = book_of([("within", A, 9, many)])
            since = book_of([("since", A, 9, many)])
            self.assertEqual(changed_days(within, 0, [("a", 3, 3)], [("a", 2, 3)]), [(2, 3 + many - 2)][:many])
            self.assertEqual(changed_days(since, 0, [("a", 3, 3)], [("a", 2, 3)]), [(2, 3 + many - 1)])
            self.assertEqual(changed_days(since, 0, [("a", 3, 3)], []), [(3, 3 + many - 1)])

    def test_the_other_rules_make_no_difference(self):
        rules = [("row", [("b", 1)], 9, 1), ("within", A, 9, 3), ("since", A, 9, 5)]
        book = book_of(rules, [(0, 0, 99), (1, 4, 4)])
        self.assertEqual(changed_days(book, 0, [], [("a", 3, 4)]), [])
        self.assertEqual(changed_days(book, 1, [], [("a", 3, 4)]), [(3, 5)])
        self.assertEqual(changed_days(book, 2, [], [("a", 3, 4)]), [(3, 8)])

    def test_the_greatest_days(self):
        for kind in ("within", "since"):
            book = book_of([(kind, A, 9, 10 ** 7)])
            self.assertEqual(changed_days(book, 0, [], [("a", TOP, TOP)]), [(TOP, TOP + 10 ** 7 - 1)])
            self.assertEqual(changed_days(book, 0, [], [("a", 0, TOP)]), [(0, TOP + 10 ** 7 - 1)])
            self.assertEqual(changed_days(book_of([(kind, A, 9, 5)], [(0, 0, TOP)]), 0, [], [("a", 0, TOP)]), [])

    def test_what_is_handed_in_stays_and_what_is_told_is_the_askers_own(self):
        book = book_of([("within", A, 9, 3)])
        old = [("a", 0, 1)]
        new = [("a", 0, 1), ("a", 9, 9)]
        told = changed_days(book, 0, old, new)
        self.assertEqual((old, new), ([("a", 0, 1)], [("a", 0, 1), ("a", 9, 9)]))
        told.clear()
        new.pop()
        self.assertEqual(changed_days(book, 0, old, [("a", 0, 1), ("a", 9, 9)]), [(9, 11)])
        self.assertEqual(changed_days(book, 0, old, new), [])


class SingleDays(unittest.TestCase):
    def check(self, rules, papers, old, new):
        found = []
        for number in range(len(rules)):
            told = changed_days(book_of(rules, papers), number, old, new)
            self.assertEqual(told, changed_plainly(rules, papers, number, old, new), (rules, papers, number, old, new))
            found.append(told)
        return found

    def test_each_edit_of_each_stay(self):
        stays = [("a", 2, 4), ("b", 6, 6), ("a", 9, 11)]
        others = [[], stays[1:], stays[:2], stays[::2], stays + [("b", 12, 13)], [("a", 0, 0)] + stays,
                  stays[:2] + [("a", 7, 8)] + stays[2:], [("a", 2, 5)] + stays[1:], [("a", 1, 4)] + stays[1:],
                  [("a", 3, 4)] + stays[1:], [("a", 2, 2)] + stays[1:], [("b", 2, 4)] + stays[1:],
                  [("c", 2, 4)] + stays[1:], [stays[0], ("b", 7, 7), stays[2]], [stays[0], ("b", 5, 5), stays[2]],
                  stays[:2] + [("a", 20, 22)], stays[:2] + [("a", 10, 12)], [("a", 2, 20)], [("b", 0, 30)]]
        for rule in KINDS:
            for papers in PAPERS:
                for other in others:
                    self.check([rule], papers, stays, other)
                    self.check([rule], papers, other, stays)
                self.assertEqual(self.check([rule], papers, stays, list(stays)), [[]])

    def test_drawn(self):
        several = behind = none = 0
        for number in range(900):
            draw = Draw(90000 + number)
            rules = draw.rules(draw.whole(1, 3), (0, 9), (1, 12))
            papers = draw.papers(draw.whole(0, 3), len(rules), 40, 6)
            old = draw.stays(draw.whole(0, 7), 6, 6, 4)
            new = edited(draw, old) if number % 4 else draw.stays(draw.whole(0, 7), 6, 6, 4)
            for told in self.check(rules, papers, old, new):
                several += len(told) > 2
                none += not told
                behind += told != [] and told[-1][1] > max(stay[2] for stay in old + new)
        # Each way it may go is met often enough.
        self.assertGreater(several, 50)
        self.assertGreater(behind, 200)
        self.assertGreater(none, 100)


class Great(unittest.TestCase):
    def check(self, rules, papers, old, new, days=()):
        """Each first and last day, those next to them, and others too, held against the counts."""
        found = []
        for number, rule in enumerate(rules):
            begin = time.perf_counter()
            told = changed_days(book_of(rules, papers), number, old, new)
            self.assertLess(time.perf_counter() - begin, 1)
            for first, last in told:
                self.assertLessEqual(first, last)
            for one, other in zip(told, told[1:]):
                self.assertGreater(other[0], one[1] + 1)
            counted = [counted_stretches(rules, papers, number, stays) for stays in (old, new)]
            asked = [edge for stretch in told for edge in stretch]
            # Where a piece, a span of it or a leave behind it begins or ends.
            edges = [edge for pieces in counted for piece in pieces for edge in piece[:2]]
            asked += edges + [edge + rule[3] for edge in edges] + list(days)
            for day in {day + some for day in asked for some in (-1, 0, 1)}:
                changed = great_count(rule, counted[0], day) != great_count(rule, counted[1], day)
                self.assertEqual(holds(told, day), changed, (rules, papers, number, old, new, day))
            found.append(told)
        return found

    def test_ordinary(self):
        for rule in (("within", A, 9, 10 ** 7), ("since", A, 9, 10 ** 7)):
            old = [("a", 0, MILLION), ("a", 5 * 10 ** 7, 6 * 10 ** 7)]
            self.assertEqual(self.check([rule], [], old, old[:1]), [[(5 * 10 ** 7, 7 * 10 ** 7 - 1)]])
            self.assertEqual(self.check([rule], [], old, old[1:]), [[(0, 11 * MILLION - 1)]])
        rule = ("within", A, 9, 10 ** 7)
        self.assertEqual(self.check([rule], [], [("a", 0, MILLION)], [("a", 1, MILLION + 1)]),
                         [[(0, MILLION), (10 ** 7, 11 * MILLION)]])

    def test_counts_that_meet_on_one_day(self):
        rule = ("within", AB, 9, 10 ** 7)
        wanted = [(0, 3 * MILLION + 8), (3 * MILLION + 10, 15 * MILLION - 1)]
        self.assertEqual(self.check([rule], [], [("b", 0, MILLION - 1)], [("a", 10, 5 * MILLION)]), [wanted])
        rule = ("within", [("a", 2), ("b", 3)], 9, 10 ** 7)
        wanted = [(0, 15 * MILLION - 1)]
        self.assertEqual(self.check([rule], [], [("b", 0, MILLION)], [("a", 10, 5 * MILLION)]), [wanted])

    def test_drawn(self):
        found = 0
        for number in range(400):
            rules, papers, old = drawn_great(95000 + number, (1, 15), (1, 3), (0, 3))
            draw = Draw(number)
            new = edited(draw, old)
            days = [draw.whole(0, 10 ** 9) for turn in range(10)]
            found += sum(len(told) for told in self.check(rules, papers, old, new, days))
        self.assertGreater(found, 300)

    def test_drawn_within_ten_millions(self):
        for number in range(300):
            draw = Draw(96000 + number)
            rules = draw.rules(draw.whole(1, 3), (0, 10 ** 7), (1, 10 ** 7))
            papers = draw.papers(draw.whole(0, 3), len(rules), 10 ** 8, 10 ** 7)
            old = draw.stays(draw.whole(0, 15), 10 ** 7, 10 ** 7, 10 ** 7)
            new = edited(draw, old) if number % 2 else draw.stays(draw.whole(0, 15), 10 ** 7, 10 ** 7, 10 ** 7)
            self.check(rules, papers, old, new, [draw.whole(0, 2 * 10 ** 8) for turn in range(10)])

    def test_counts_of_the_tests_own(self):
        rule = ("within", AB, 9, 7)
        stays = [("b", 0, 3), ("a", 5, 9)]
        for day in range(-3, 30):
            self.assertEqual(great_count(rule, counted_stretches([rule], [], 0, stays), day),
                             count_plainly([rule], [], 0, stays, day))


if __name__ == "__main__":
    unittest.main()
