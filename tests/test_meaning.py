import unittest

from daysgate.meaning import count_by_days, fault_by_days, weight_on
from daysgate.sums import count_of, fault_of
from tests.plain import Draw, TOP, book_of, count_plainly, counted_days, fault_plainly

A = [("a", 1)]
AB = [("a", 1), ("b", 3)]


class Weights(unittest.TestCase):
    def weights(self, rule, papers, stays, days):
        book = book_of([rule], papers)
        return [weight_on(book, 0, stays, day) for day in days]

    def test_each_kind_with_lands_with_and_without_weight(self):
        stays = [("a", 2, 3), ("b", 4, 4), ("c", 6, 6), ("a", 8, 8)]
        for kind in ("within", "since", "row"):
            told = self.weights((kind, AB, 5, 4), [], stays, range(-1, 11))
            self.assertEqual(told, [0, 0, 0, 1, 1, 3, 0, 0, 0, 1, 0, 0])

    def test_papers_on_the_first_day_the_last_day_amid_all_days_and_days_out(self):
        stays = [("a", 5, 9)]
        rule = ("within", A, 5, 4)
        for papers, wanted in (
            ([], [0, 1, 1, 1, 1, 1, 0]),
            ([(0, 5, 5)], [0, 0, 1, 1, 1, 1, 0]),
            ([(0, 9, 9)], [0, 1, 1, 1, 1, 0, 0]),
            ([(0, 7, 8)], [0, 1, 1, 0, 0, 1, 0]),
            ([(0, 5, 9)], [0, 0, 0, 0, 0, 0, 0]),
            ([(0, 0, TOP)], [0, 0, 0, 0, 0, 0, 0]),
            ([(0, 0, 4), (0, 10, 12)], [0, 1, 1, 1, 1, 1, 0]),
            ([(0, 9, 9), (0, 5, 6), (0, 6, 7)], [0, 0, 0, 0, 1, 0, 0]),
        ):
            self.assertEqual(self.weights(rule, papers, stays, range(4, 11)), wanted, papers)

    def test_a_paper_lifts_its_own_rule_alone(self):
        book = book_of([("row", A, 5, 1), ("since", AB, 5, 2)], [(0, 3, 3), (1, 4, 4)])
        stays = [("a", 3, 5)]
        self.assertEqual([weight_on(book, 0, stays, day) for day in (3, 4, 5)], [0, 1, 1])
        self.assertEqual([weight_on(book, 1, stays, day) for day in (3, 4, 5)], [1, 0, 1])

    def test_great_days(self):
        self.assertEqual(self.weights(("within", A, 5, 4), [(0, 10, 10 ** 8)], [("a", 0, TOP)],
                                      [0, 9, 10, 10 ** 8, 10 ** 8 + 1, TOP, TOP + 1]), [1, 1, 0, 0, 1, 1, 0])

    def test_forty_stays(self):
        stays = [("ab"[place % 2], 3 * place, 3 * place + 1) for place in range(40)]
        self.assertEqual(self.weights(("row", AB, 5, 1), [], stays, range(120)), [1, 1, 0, 3, 3, 0] * 20)


class Counts(unittest.TestCase):
    def counts(self, rule, papers, stays, days):
        """As the program tells them by days and by pieces, which are to be the same."""
        book = book_of([rule], papers)
        told = [count_by_days(book, 0, stays, day) for day in days]
        self.assertEqual([count_of(book, 0, stays, day) for day in days], told)
        return told

    def test_within(self):
        stays = [("a", 2, 4), ("b", 6, 6)]
        self.assertEqual(self.counts(("within", AB, 5, 3), [], stays, range(0, 11)), [0, 0, 1, 2, 3, 2, 4, 3, 3, 0, 0])
        self.assertEqual(self.counts(("within", AB, 5, 1), [], stays, range(0, 8)), [0, 0, 1, 1, 1, 0, 3, 0])

    def test_a_window_that_begins_below_nought(self):
        self.assertEqual(self.counts(("within", A, 5, 40), [], [("a", 0, 2)], range(-2, 6)), [0, 0, 1, 2, 3, 3, 3, 3])
        self.assertEqual(self.counts(("since", A, 5, 40), [], [("a", 0, 2)], range(-2, 6)), [0, 0, 1, 2, 3, 3, 3, 3])

    def test_a_leave_that_just_ends_and_one_that_lacks_a_day(self):
        for leave in (2, 3, 40):
            rule = ("since", A, 5, leave)
            lacks = [("a", 3, 4), ("a", 4 + leave, 4 + leave)]
            ended = [("a", 3, 4), ("a", 5 + leave, 5 + leave)]
            last = 4 + leave
            self.assertEqual(self.counts(rule, [], lacks, [last - 1, last, last + 1]), [2, 3, 3])
            self.assertEqual(self.counts(rule, [], ended, [last - 1, last, last + 1, last + 2]), [2, 0, 1, 1])

    def test_the_day_with_which_a_leave_ends_counts_none(self):
        self.assertEqual(self.counts(("since", A, 5, 3), [], [("a", 5, 6)], range(4, 12)), [0, 1, 2, 2, 2, 0, 0, 0])

    def test_a_leave_of_one_as_since_and_as_one_in_a_row(self):
        stays = [("a", 2, 4), ("a", 5, 5), ("a", 7, 7), ("c", 8, 8), ("b", 9, 10), ("a", 11, 11)]
        wanted = [0, 0, 1, 2, 3, 4, 0, 1, 0, 3, 6, 7, 0]
        self.assertEqual(self.counts(("since", AB, 5, 1), [], stays, range(13)), wanted)
        self.assertEqual(self.counts(("row", AB, 5, 1), [], stays, range(13)), wanted)

    def test_a_leave_of_days_out_days_without_weight_and_lifted_days_together(self):
        stays = [("a", 1, 3), ("c", 5, 5), ("a", 6, 9)]
        rule = ("since", A, 9, 4)
        self.assertEqual(self.counts(rule, [(0, 6, 6)], stays, range(1, 10)), [1, 2, 3, 3, 3, 3, 4, 5, 6])
        self.assertEqual(self.counts(rule, [(0, 6, 7)], stays, range(1, 10)), [1, 2, 3, 3, 3, 3, 0, 1, 2])
        self.assertEqual(self.counts(rule, [(0, 3, 3), (0, 6, 6)], stays, range(1, 10)), [1, 2, 2, 2, 2, 0, 1, 2, 3])

    def test_a_lifted_day_amid_a_row(self):
        self.assertEqual(self.counts(("row", A, 9, 1), [(0, 4, 4)], [("a", 2, 7)], range(1, 9)),
                         [0, 1, 2, 0, 1, 2, 3, 0])
        self.assertEqual(self.counts(("within", A, 9, 4), [(0, 4, 4)], [("a", 2, 7)], range(1, 9)),
                         [0, 1, 2, 2, 3, 3, 3, 3])

    def test_no_stays(self):
        for kind in ("within", "since", "row"):
            self.assertEqual(self.counts((kind, A, 0, 7), [(0, 3, 3)], [], [-5, 0, 3, 362]), [0, 0, 0, 0])


class Faults(unittest.TestCase):
    def fault(self, rules, papers, stays):
        """As the program tells it by days and by pieces, which are to be the same."""
        book = book_of(rules, papers)
        told = fault_by_days(book, stays)
        self.assertEqual(fault_of(book, stays), told)
        return told

    def test_none_where_there_are_no_stays_or_no_rules(self):
        self.assertIsNone(self.fault([], [], []))
        self.assertIsNone(self.fault([], [], [("a", 0, 300)]))
        self.assertIsNone(self.fault([("row", A, 0, 1), ("within", A, 0, 3), ("since", A, 0, 3)], [], []))

    def test_a_most_of_nought(self):
        for rule, first in ((("within", A, 0, 4), 1), (("within", A, 0, 1), 4), (("since", A, 0, 9), 4),
                            (("row", A, 0, 1), 4)):
            self.assertEqual(self.fault([rule], [], [("b", 2, 3), ("a", 4, 4)]), (4, 0, first))
            self.assertIsNone(self.fault([rule], [], [("b", 2, 9)]))
            self.assertIsNone(self.fault([rule], [(0, 4, 4)], [("a", 4, 4)]))

    def test_the_day_on_which_the_count_is_just_the_most_and_the_next(self):
        for rule, first in ((("within", A, 5, 9), 3), (("since", A, 5, 9), 6), (("row", A, 5, 1), 6)):
            self.assertIsNone(self.fault([rule], [], [("a", 6, 10)]))
            self.assertEqual(self.fault([rule], [], [("a", 6, 11)]), (11, 0, first))
            self.assertEqual(self.fault([rule], [], [("a", 6, 90)]), (11, 0, first))

    def test_a_weight_that_leaps_over_the_most(self):
        self.assertIsNone(self.fault([("row", [("b", 3)], 5, 1)], [], [("b", 2, 2)]))
        self.assertEqual(self.fault([("row", [("b", 3)], 5, 1)], [], [("b", 2, 9)]), (3, 0, 2))
        self.assertEqual(self.fault([("row", [("b", 3)], 6, 1)], [], [("b", 2, 9)]), (4, 0, 2))
        self.assertEqual(self.fault([("row", [("b", 9)], 8, 1)], [], [("b", 2, 9)]), (2, 0, 2))

    def test_two_rules_broken_on_one_day_the_least_number(self):
        rules = [("since", A, 90, 2), ("within", A, 2, 5), ("row", A, 2, 1), ("since", A, 2, 7)]
        self.assertEqual(self.fault(rules, [], [("a", 4, 9)]), (6, 1, 2))
        self.assertEqual(self.fault(rules[2:], [], [("a", 4, 9)]), (6, 0, 4))
        self.assertEqual(self.fault(rules, [(1, 6, 6)], [("a", 4, 9)]), (6, 2, 4))
        self.assertEqual(self.fault(rules[::-1], [], [("a", 4, 9)]), (6, 0, 4))

    def test_the_first_day_goes_ahead_of_the_least_number(self):
        rules = [("within", A, 3, 5), ("row", A, 2, 1)]
        self.assertEqual(self.fault(rules, [], [("a", 4, 9)]), (6, 1, 4))
        self.assertEqual(self.fault(rules, [(1, 5, 5)], [("a", 4, 9)]), (7, 0, 3))

    def test_the_first_day_of_the_window(self):
        self.assertEqual(self.fault([("within", A, 1, 40)], [], [("a", 0, 1)]), (1, 0, -38))
        self.assertEqual(self.fault([("within", A, 0, 40)], [], [("a", 0, 0)]), (0, 0, -39))
        self.assertEqual(self.fault([("since", A, 1, 40)], [], [("a", 0, 1)]), (1, 0, 0))
        self.assertEqual(self.fault([("since", A, 2, 4)], [], [("a", 3, 3), ("a", 7, 9)]), (8, 0, 3))
        self.assertEqual(self.fault([("since", A, 2, 3)], [], [("a", 3, 3), ("a", 7, 9)]), (9, 0, 7))
        self.assertEqual(self.fault([("since", A, 2, 3)], [(0, 7, 7)], [("a", 3, 3), ("a", 7, 12)]), (10, 0, 8))

    def test_a_row_that_a_paper_cuts(self):
        self.assertIsNone(self.fault([("row", A, 3, 1)], [(0, 5, 5)], [("a", 2, 8)]))
        self.assertEqual(self.fault([("row", A, 3, 1)], [(0, 5, 5)], [("a", 2, 9)]), (9, 0, 6))

    def test_a_span_that_slides_on_without_end(self):
        stays = [("a", 10 * turn, 10 * turn + 3) for turn in range(20)]
        self.assertIsNone(self.fault([("within", A, 4, 10)], [], stays))
        self.assertEqual(self.fault([("within", A, 4, 11)], [], stays), (10, 0, 0))
        self.assertEqual(self.fault([("within", A, 4, 10)], [], stays[:19] + [("a", 189, 189)]), (189, 0, 180))

    def test_what_comes_behind_the_day_changes_nothing(self):
        rules = [("within", AB, 4, 7), ("since", A, 3, 3)]
        stays = [("a", 0, 1), ("b", 4, 5)]
        for behind in ([], [("a", 6, 6)], [("b", 6, 99), ("a", 100, 200)]):
            self.assertEqual(self.fault(rules, [], stays + behind), (4, 0, -2))

    def test_a_fault_on_the_last_of_the_days_that_are_promised(self):
        stays = [("a", 0, 3), ("a", 362, 365)]
        self.assertEqual(self.fault([("within", A, 24, 40), ("row", A, 3, 1)], [], [("a", 362, 365)]), (365, 1, 362))
        self.assertIsNone(self.fault([("within", A, 4, 40), ("row", A, 4, 1)], [], stays))


class AgainstSingleDays(unittest.TestCase):
    def test_drawn(self):
        faults = 0
        for number in range(700):
            draw = Draw(number)
            rules = draw.rules(draw.whole(1, 4), (0, 12), (1, 12))
            papers = draw.papers(draw.whole(0, 4), len(rules), 60, 8)
            stays = draw.stays(draw.whole(0, 9), 6, 9, 6)
            book = book_of(rules, papers)
            wanted = fault_plainly(rules, papers, stays)
            self.assertEqual(fault_by_days(book, stays), wanted, (rules, papers, stays))
            faults += wanted is not None
            last = stays[-1][2] if stays else 5
            for place in range(len(rules)):
                counted = counted_days(rules, papers, place, stays)
                for day in range(-2, last + 15, 3):
                    self.assertEqual(weight_on(book, place, stays, day), counted.get(day, 0))
                    self.assertEqual(count_by_days(book, place, stays, day),
                                     count_plainly(rules, papers, place, stays, day), (rules, papers, stays, day))
        self.assertGreater(faults, 200)
        self.assertLess(faults, 600)

    def test_drawn_at_the_bounds_of_what_is_promised(self):
        for number in range(25):
            draw = Draw(9000 + number)
            rules = draw.rules(4, (14, 24), (30, 40))
            papers = draw.papers(4, 4, 365, 40)
            stays = [stay for stay in draw.stays(20, 0, 30, 2) if stay[2] <= 365]
            self.assertEqual(fault_by_days(book_of(rules, papers), stays), fault_plainly(rules, papers, stays))


if __name__ == "__main__":
    unittest.main()
