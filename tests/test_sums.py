import unittest

from daysgate.sums import count_of, fault_of
from tests.plain import Draw, book_of, count_plainly, fault_plainly

A = [("a", 1)]


class AgainstSingleDays(unittest.TestCase):
    def test_counts(self):
        for number in range(500):
            draw = Draw(20000 + number)
            rules = draw.rules(draw.whole(1, 4), (0, 12), (1, 15))
            papers = draw.papers(draw.whole(0, 6), len(rules), 60, 8)
            stays = draw.stays(draw.whole(0, 9), 6, 12, 6)
            book = book_of(rules, papers)
            last = stays[-1][2] if stays else 5
            for place in range(len(rules)):
                for day in range(-3, last + 20, 2):
                    self.assertEqual(count_of(book, place, stays, day),
                                     count_plainly(rules, papers, place, stays, day), (rules, papers, stays, day))

    def faults(self, numbers, many, mosts, days, papers, stays):
        """How many of the drawn ones have a fault."""
        found = 0
        for number in numbers:
            draw = Draw(number)
            rules = draw.rules(draw.whole(*many), mosts, days)
            some_papers = draw.papers(draw.whole(*papers), len(rules), 70, 8)
            some_stays = draw.stays(draw.whole(*stays), 6, 9, 6)
            wanted = fault_plainly(rules, some_papers, some_stays)
            told = fault_of(book_of(rules, some_papers), some_stays)
            self.assertEqual(told, wanted, (rules, some_papers, some_stays))
            found += wanted is not None
        return found

    def test_faults(self):
        found = self.faults(range(30000, 31500), (1, 4), (0, 15), (1, 15), (0, 5), (0, 9))
        self.assertGreater(found, 400)
        self.assertLess(found, 1400)

    def test_faults_of_one_rule(self):
        found = self.faults(range(32000, 33500), (1, 1), (2, 20), (2, 20), (0, 4), (2, 12))
        self.assertGreater(found, 300)
        self.assertLess(found, 1300)

    def test_faults_of_eight_rules(self):
        found = self.faults(range(34000, 34300), (8, 8), (6, 30), (1, 20), (0, 12), (4, 12))
        self.assertGreater(found, 60)
        self.assertLess(found, 300)

    def test_faults_of_sixty_stays(self):
        found = self.faults(range(36000, 36040), (2, 2), (20, 60), (5, 25), (0, 12), (60, 60))
        self.assertGreater(found, 5)
        self.assertLess(found, 40)

    def test_no_stays_and_no_rules(self):
        self.assertIsNone(fault_of(book_of([]), []))
        self.assertIsNone(fault_of(book_of([]), [("a", 0, 10 ** 9)]))
        self.assertIsNone(fault_of(book_of([("row", A, 0, 1), ("within", A, 0, 10 ** 9)]), []))


class AskedAgain(unittest.TestCase):
    def setUp(self):
        self.book = book_of([("within", A, 5, 10), ("since", [("b", 2)], 6, 3)], [(0, 4, 4)])

    def test_twice(self):
        stays = [("a", 0, 3), ("b", 5, 6), ("a", 9, 12)]
        for turn in range(3):
            self.assertEqual(fault_of(self.book, stays), None)
            self.assertEqual([count_of(self.book, 0, stays, day) for day in (3, 9, 12)], [4, 5, 5])
            self.assertEqual(count_of(self.book, 1, stays, 6), 4)
            self.assertEqual(stays, [("a", 0, 3), ("b", 5, 6), ("a", 9, 12)])

    def test_with_other_stays_put_to_the_same_list(self):
        stays = [("a", 0, 3)]
        self.assertIsNone(fault_of(self.book, stays))
        self.assertEqual(count_of(self.book, 0, stays, 9), 4)
        stays.append(("a", 8, 9))
        self.assertEqual(count_of(self.book, 0, stays, 9), 6)
        self.assertEqual(fault_of(self.book, stays), (9, 0, 0))
        stays.pop()
        self.assertIsNone(fault_of(self.book, stays))
        stays[0] = ("b", 2, 6)
        self.assertEqual(count_of(self.book, 0, stays, 9), 0)
        self.assertEqual(fault_of(self.book, stays), (5, 1, 2))
        stays.clear()
        self.assertIsNone(fault_of(self.book, stays))
        self.assertEqual(count_of(self.book, 0, stays, 9), 0)

    def test_of_another_book(self):
        stays = [("a", 0, 9)]
        self.assertEqual(fault_of(self.book, stays), (6, 0, -3))
        self.assertIsNone(fault_of(book_of([("within", A, 10, 10)]), stays))
        self.assertEqual(fault_of(self.book, stays), (6, 0, -3))


if __name__ == "__main__":
    unittest.main()
