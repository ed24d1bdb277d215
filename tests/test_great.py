"""Faults and counts by pieces where the numbers are too great for single days."""

import time
import unittest

from daysgate.sums import count_of, fault_of
from tests.plain import (
    Draw, TOP, book_of, count_plainly, counted_stretches, drawn_great, fault_plainly, great_count, great_days,
    great_first, wrong_with_fault,
)

A = [("a", 1)]
AB = [("a", 1), ("b", 3)]
MILLION = 10 ** 6


class Great(unittest.TestCase):
    def fault(self, rules, papers, stays):
        """The told fault, once it is found right, and come in time."""
        book = book_of(rules, papers)
        begin = time.perf_counter()
        told = fault_of(book, stays)
        self.assertLess(time.perf_counter() - begin, 1)
        self.assertIsNone(wrong_with_fault(rules, papers, stays, told), (rules, papers, stays, told))
        return told


class Ordinary(Great):
    def test_one_stay_of_many_days(self):
        stays = [("a", 0, TOP)]
        self.assertEqual(self.fault([("within", A, MILLION, 10 ** 7)], [], stays), (MILLION, 0, MILLION - 10 ** 7 + 1))
        self.assertEqual(self.fault([("since", A, MILLION, TOP)], [], stays), (MILLION, 0, 0))
        self.assertEqual(self.fault([("row", A, 7, 1)], [(0, 0, TOP - 9)], stays), (TOP - 1, 0, TOP - 8))
        self.assertIsNone(self.fault([("row", A, 9, 1)], [(0, 0, TOP - 9)], stays))
        self.assertIsNone(self.fault([("within", A, 10 ** 7, 10 ** 7)], [], stays))
        self.assertEqual(self.fault([("within", A, 10 ** 7 - 1, 10 ** 7)], [], stays), (10 ** 7 - 1, 0, 0))

    def test_a_most_that_a_weight_leaps_over(self):
        stays = [("b", 5, TOP)]
        for most in range(3 * MILLION, 3 * MILLION + 7):
            day = 5 + most // 3
            self.assertEqual(self.fault([("since", AB, most, 4)], [], stays), (day, 0, 5))
            self.assertEqual(self.fault([("within", AB, most, TOP)], [], stays), (day, 0, day - TOP + 1))

    def test_a_leave_that_just_ends_and_one_that_lacks_a_day(self):
        for leave in (MILLION, 10 ** 7, TOP // 2):
            rule = ("since", A, 10, leave)
            self.assertIsNone(self.fault([rule], [], [("a", 0, 9), ("a", 10 + leave, 19 + leave)]))
            self.assertEqual(self.fault([rule], [], [("a", 0, 9), ("a", 9 + leave, 19 + leave)]), (9 + leave, 0, 0))

    def test_a_span_that_just_slides_out_of_a_stay(self):
        for span in (MILLION, 10 ** 7, TOP // 2):
            rule = ("within", A, 10, span)
            self.assertIsNone(self.fault([rule], [], [("a", 0, 9), ("a", span, span + 9)]))
            self.assertEqual(self.fault([rule], [], [("a", 0, 9), ("a", span - 1, span + 9)]), (span - 1, 0, 0))
            self.assertEqual(self.fault([rule], [], [("a", 0, 9), ("a", span, span + 10)]), (span + 10, 0, 11))

    def test_a_count_that_falls_while_one_stays(self):
        # A heavy land slides out of the span while a light one goes on.
        stays = [("b", 0, MILLION - 1), ("a", MILLION, 9 * MILLION)]
        self.assertIsNone(self.fault([("within", AB, 3 * MILLION + 1000, MILLION + 1000)], [], stays))
        self.assertEqual(self.fault([("within", AB, 3 * MILLION + 999, MILLION + 1000)], [], stays),
                         (MILLION + 999, 0, 0))

    def test_a_count_that_first_falls_and_then_is_too_great(self):
        stays = [("b", 0, 999), ("a", 1000, 3 * MILLION), ("b", 3 * MILLION + 1, 5 * MILLION)]
        rule = ("within", AB, 2 * MILLION, MILLION)
        told = self.fault([rule], [], stays)
        # There each further day counts 3, and one that counted 1 leaves the span.
        self.assertEqual(told[0], 3 * MILLION + MILLION // 2 + 1)

    def test_two_rules_on_one_day(self):
        rules = [("row", A, 4 * MILLION, 1), ("within", A, 3 * MILLION, TOP), ("since", A, 3 * MILLION, 7)]
        self.assertEqual(self.fault(rules, [], [("a", 0, TOP)]), (3 * MILLION, 1, 3 * MILLION - TOP + 1))
        self.assertEqual(self.fault(rules, [(1, 5, 5)], [("a", 0, TOP)]), (3 * MILLION, 2, 0))

    def test_counts_on_great_days(self):
        book = book_of([("within", AB, 5, 10 ** 7), ("since", AB, 5, 10 ** 7)], [(0, 0, 4), (1, 7, 10 ** 8)])
        stays = [("a", 0, MILLION), ("b", 10 ** 8, TOP)]
        self.assertEqual(count_of(book, 0, stays, MILLION), MILLION - 4)
        self.assertEqual(count_of(book, 0, stays, 10 ** 7 + 4), MILLION - 4)
        self.assertEqual(count_of(book, 0, stays, 10 ** 7 + 5), MILLION - 5)
        self.assertEqual(count_of(book, 0, stays, 2 * 10 ** 7), 0)
        self.assertEqual(count_of(book, 0, stays, TOP), 3 * 10 ** 7)
        self.assertEqual(count_of(book, 1, stays, 10 ** 7 + 5), 7)
        self.assertEqual(count_of(book, 1, stays, 10 ** 7 + 6), 0)
        self.assertEqual(count_of(book, 1, stays, TOP), 3 * 9 * 10 ** 8)
        self.assertEqual(count_of(book, 1, stays, TOP + 10 ** 7), 0)
        self.assertEqual(count_of(book, 1, stays, -TOP), 0)


class Drawn(Great):
    def test_faults(self):
        found = 0
        for number in range(1500):
            found += self.fault(*drawn_great(number)) is not None
        self.assertGreater(found, 300)
        self.assertLess(found, 1300)

    def test_faults_of_eight_rules(self):
        found = 0
        for number in range(5000, 5200):
            found += self.fault(*drawn_great(number, (5, 20), (8, 8), (0, 12))) is not None
        self.assertGreater(found, 60)

    def test_faults_of_sixty_stays(self):
        found = 0
        for number in range(6000, 6060):
            found += self.fault(*drawn_great(number, (60, 60), (8, 8), (12, 12))) is not None
        self.assertGreater(found, 20)

    def test_sixty_stays_that_are_let(self):
        stays = [("ab"[place % 2], 10 ** 7 * place, 10 ** 7 * place + MILLION) for place in range(60)]
        rules = [("within", AB, 11 * MILLION, 2 * 10 ** 7 + place) for place in range(8)]
        papers = [(place % 8, 10 ** 7 * place + 50, 10 ** 7 * place + 90) for place in range(12)]
        self.assertIsNone(self.fault(rules, papers, stays))

    def test_counts(self):
        for number in range(7000, 7300):
            rules, papers, stays = drawn_great(number, (1, 30))
            book = book_of(rules, papers)
            for place, told in enumerate(rules):
                stretches = counted_stretches(rules, papers, place, stays)
                days = great_days(told, stretches) + [day for stay in stays for day in stay[1:]]
                for day in days + [day + 1 for day in days] + [-1, 0, TOP, 2 * TOP]:
                    self.assertEqual(count_of(book, place, stays, day), great_count(told, stretches, day))


class OwnSums(unittest.TestCase):
    """The sums that the tests make themselves are right, too: single days say so."""

    def test_against_single_days(self):
        for number in range(300):
            draw = Draw(number)
            rules = draw.rules(2, (0, 12), (1, 12))
            papers = draw.papers(draw.whole(0, 4), 2, 60, 8)
            stays = draw.stays(draw.whole(0, 9), 6, 9, 6)
            for place, told in enumerate(rules):
                stretches = counted_stretches(rules, papers, place, stays)
                for day in range(-2, 70, 3):
                    self.assertEqual(great_count(told, stretches, day),
                                     count_plainly(rules, papers, place, stays, day))
            wanted = fault_plainly(rules, papers, stays)
            self.assertIsNone(wrong_with_fault(rules, papers, stays, wanted))
            if wanted:
                day, place, first = wanted
                self.assertEqual(great_first(rules[place], counted_stretches(rules, papers, place, stays), day), first)
                for other in (None, (day + 1, place, first + 1), (day - 1, place, first), (day, place, first - 1)):
                    self.assertIsNotNone(wrong_with_fault(rules, papers, stays, other))


if __name__ == "__main__":
    unittest.main()
