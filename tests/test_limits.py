import time
import unittest

from daysgate.limits import first_back, last_day
from tests.plain import Draw, TOP, book_of, drawn_great, fault_plainly, wrong_with_fault

A = [("a", 1)]
AB = [("a", 1), ("b", 3)]
MILLION = 10 ** 6
NAMES = ["a", "b", "c", "d"]


def end_of_all(rules, papers, first):
    """A day behind which nothing new comes: papers are over, spans are full, mosts are reached."""
    days = [told[3] + told[2] for told in rules]
    return max([first] + [last for number, begin, last in papers]) + max(days, default=0) + 2


def last_day_plainly(rules, papers, stays, land, first):
    for day in range(first, end_of_all(rules, papers, first) + 1):
        fault = fault_plainly(rules, papers, stays + [(land, first, day)])
        if fault is not None:
            return (day - 1, fault)
    return (None, None)


def first_back_plainly(rules, papers, stays, land, first):
    last = max([first] + [paper[2] for paper in papers]) + max([told[3] for told in rules], default=0) + 2
    for day in range(first, last + 1):
        if fault_plainly(rules, papers, stays + [(land, day, day)]) is None:
            return day
    return None


class Ordinary(unittest.TestCase):
    def test_within(self):
        book = book_of([("within", A, 90, 180)])
        self.assertEqual(last_day(book, [], "a", 0), (89, (90, 0, -89)))
        self.assertEqual(last_day(book, [], "a", 500), (589, (590, 0, 411)))
        self.assertEqual(last_day(book, [("a", 0, 49)], "a", 50), (89, (90, 0, -89)))
        self.assertEqual(last_day(book, [("a", 0, 49)], "a", 100), (139, (140, 0, -39)))
        self.assertEqual(last_day(book, [("a", 0, 49)], "a", 180), (269, (270, 0, 91)))
        # The days of the first stay slide out of the span, one with each further day, until they are gone.
        self.assertEqual(last_day(book, [("a", 0, 49)], "a", 140), (229, (230, 0, 51)))
        self.assertEqual(first_back(book, [("a", 0, 89)], "a", 90), 180)
        self.assertEqual(first_back(book, [("a", 0, 88)], "a", 90), 90)
        self.assertEqual(first_back(book, [("a", 0, 89)], "a", 180), 180)
        self.assertEqual(first_back(book, [("a", 0, 89)], "a", 300), 300)
        self.assertEqual(first_back(book, [("a", 0, 89)], "b", 90), 90)

    def test_since(self):
        book = book_of([("since", AB, 10, 5)])
        self.assertEqual(last_day(book, [], "b", 4), (6, (7, 0, 4)))
        self.assertEqual(last_day(book, [("a", 0, 5)], "a", 10), (13, (14, 0, 0)))
        self.assertEqual(last_day(book, [("a", 0, 5)], "a", 11), (20, (21, 0, 11)))
        self.assertEqual(first_back(book, [("a", 0, 9)], "a", 10), 15)
        self.assertEqual(first_back(book, [("a", 0, 7)], "b", 8), 13)
        self.assertEqual(first_back(book, [("a", 0, 7)], "a", 8), 8)
        self.assertEqual(first_back(book, [("a", 0, 7)], "b", 14), 14)

    def test_in_a_row(self):
        book = book_of([("row", AB, 6, 1)])
        self.assertEqual(last_day(book, [("a", 0, 2)], "a", 3), (5, (6, 0, 0)))
        self.assertEqual(last_day(book, [("a", 0, 2)], "b", 3), (3, (4, 0, 0)))
        self.assertEqual(last_day(book, [("a", 0, 2)], "a", 4), (9, (10, 0, 4)))
        self.assertEqual(first_back(book, [("a", 0, 5)], "a", 6), 7)
        self.assertEqual(first_back(book, [("a", 0, 4)], "a", 5), 5)
        self.assertEqual(first_back(book, [("a", 0, 4)], "b", 5), 6)

    def test_heavy_days_that_leave_the_span(self):
        book = book_of([("within", AB, 10, 20)])
        stays = [("b", 0, 1), ("a", 5, 8)]
        self.assertEqual(first_back(book, stays, "a", 9), 20)
        self.assertEqual(first_back(book, stays, "b", 9), 20)
        self.assertEqual(first_back(book, [("a", 0, 3), ("b", 5, 6)], "b", 9), 22)
        self.assertEqual(first_back(book, [("a", 0, 0), ("b", 1, 3)], "a", 9), 20)
        self.assertEqual(first_back(book, [("a", 0, 0), ("b", 1, 3)], "b", 9), 21)

    def test_not_even_the_first_day(self):
        for rule, first in ((("within", A, 3, 9), -3), (("since", A, 3, 9), 2), (("row", A, 3, 1), 2)):
            self.assertEqual(last_day(book_of([rule]), [("a", 2, 4)], "a", 5), (4, (5, 0, first)))
        self.assertEqual(last_day(book_of([("row", A, 0, 1)]), [], "a", 0), (-1, (0, 0, 0)))
        self.assertEqual(last_day(book_of([("row", [("a", 9)], 8, 1)]), [], "a", 7), (6, (7, 0, 7)))

    def test_stays_without_end(self):
        stays = [("a", 2, 4)]
        ever = (None, None)
        self.assertEqual(last_day(book_of([]), stays, "a", 5), ever)
        self.assertEqual(last_day(book_of([]), [], "a", TOP - 134), ever)
        # a land without weight
        self.assertEqual(last_day(book_of([("within", A, 3, 9), ("row", A, 3, 1)]), stays, "b", 5), ever)
        # a most so great that a span never reaches it
        self.assertEqual(last_day(book_of([("within", A, 9, 9)]), stays, "a", 5), ever)
        self.assertEqual(last_day(book_of([("within", A, 8, 9)]), stays, "a", 5), (9, (10, 0, 2)))
        self.assertEqual(last_day(book_of([("within", AB, 27, 9)]), stays, "b", 5), ever)
        self.assertEqual(last_day(book_of([("within", AB, 26, 9)]), stays, "b", 5), (12, (13, 0, 5)))

    def test_a_paper_over_all_days_that_count(self):
        # Papers end with day 10 ** 9, and a stay asked for may go on: only what counts too much behind it ends it.
        for rule in (("within", A, 3, 3), ("within", A, 7, 3)):
            self.assertEqual(last_day(book_of([rule], [(0, 0, TOP)]), [("a", 2, 400)], "a", 500), (None, None))
        self.assertEqual(last_day(book_of([("row", A, 3, 1)], [(0, 0, TOP)]), [("a", 2, 400)], "a", 500),
                         (TOP + 3, (TOP + 4, 0, TOP + 1)))
        # Of the days that count ahead the paper lifts all, and the span has room for what comes behind.
        self.assertEqual(last_day(book_of([("within", A, 4, 4)], [(0, 0, 50)]), [("a", 2, 40)], "a", 45), (None, None))
        self.assertEqual(last_day(book_of([("since", A, 4, 4)], [(0, 0, 50)]), [("a", 2, 40)], "a", 45),
                         (54, (55, 0, 51)))

    def test_papers_ahead_of_the_last_day(self):
        stays = [("a", 0, 4)]
        self.assertEqual(last_day(book_of([("row", A, 7, 1)], [(0, 7, 7)]), stays, "a", 5), (14, (15, 0, 8)))
        self.assertEqual(last_day(book_of([("row", A, 7, 1)], [(0, 20, 28)]), stays, "a", 5), (6, (7, 0, 0)))
        self.assertEqual(last_day(book_of([("within", A, 7, 10)], [(0, 7, 9)]), stays, "a", 5), (16, (17, 0, 8)))
        self.assertEqual(last_day(book_of([("within", A, 7, 10)], [(0, 7, 8)]), stays, "a", 5), (8, (9, 0, 0)))
        self.assertEqual(last_day(book_of([("since", A, 7, 3)], [(0, 6, 8)]), stays, "a", 5), (15, (16, 0, 9)))
        self.assertEqual(last_day(book_of([("since", A, 7, 3)], [(0, 6, 7)]), stays, "a", 5), (8, (9, 0, 0)))

    def test_papers_ahead_of_the_first_day_back(self):
        stays = [("a", 0, 4)]
        for papers, wanted in (
            ([], 20), ([(0, 9, 12)], 9), ([(0, 5, 5)], 5), ([(0, 2, 7)], 5), ([(0, 19, 30)], 19), ([(0, 20, 30)], 20),
            ([(0, 21, 30)], 20), ([(0, 12, 12), (0, 8, 8)], 8), ([(1, 9, 12)], 20),
        ):
            book = book_of([("within", A, 5, 20), ("row", A, 99, 1)], papers)
            self.assertEqual(first_back(book, stays, "a", 5), wanted, papers)
        # Here three days of the stay are lifted, and so there is room at once.
        self.assertEqual(first_back(book_of([("within", A, 5, 20)], [(0, 2, 7)]), stays, "a", 8), 8)

    def test_each_of_two_rules_must_let_the_day(self):
        rules = [("within", A, 5, 20), ("since", A, 5, 30)]
        stays = [("a", 0, 4)]
        self.assertEqual(first_back(book_of(rules), stays, "a", 5), 35)
        self.assertEqual(first_back(book_of(rules, [(1, 8, 12)]), stays, "a", 5), 35)
        self.assertEqual(first_back(book_of(rules, [(0, 8, 12), (1, 11, 18)]), stays, "a", 5), 11)
        self.assertEqual(first_back(book_of(rules, [(0, 8, 12), (1, 13, 18)]), stays, "a", 5), 35)
        self.assertEqual(first_back(book_of(rules, [(0, 8, 12), (1, 13, 22)]), stays, "a", 5), 20)

    def test_no_day_back(self):
        for rule in (("within", A, 0, 9), ("since", A, 0, 9), ("row", A, 0, 1), ("within", [("a", 4)], 3, 9),
                     ("since", [("a", 4)], 3, 9), ("row", [("a", 9)], 8, 1)):
            self.assertIsNone(first_back(book_of([rule]), [], "a", 0))
            self.assertIsNone(first_back(book_of([("row", A, 9, 1), rule]), [("b", 2, 5)], "a", 6))
            self.assertEqual(first_back(book_of([rule]), [], "b", 3), 3)
            # A paper lets one come all the same, on its days alone.
            self.assertEqual(first_back(book_of([rule], [(0, 40, 41)]), [], "a", 3), 40)
            self.assertEqual(first_back(book_of([rule], [(0, 40, 41)]), [], "a", 41), 41)
            self.assertIsNone(first_back(book_of([rule], [(0, 40, 41)]), [], "a", 42))
            self.assertEqual(first_back(book_of([rule], [(0, TOP, TOP)]), [], "a", 42), TOP)

    def test_no_rules_and_no_stays(self):
        for day in (0, 5, TOP - 134):
            self.assertEqual(first_back(book_of([]), [], "a", day), day)
            self.assertEqual(first_back(book_of([("row", A, 1, 1)]), [], "a", day), day)
            self.assertEqual(last_day(book_of([("row", A, 1, 1)]), [], "a", day), (day, (day + 1, 0, day)))

    def test_what_is_handed_in_stays(self):
        stays = [("a", 0, 4)]
        book = book_of([("within", A, 5, 20)], [(0, 9, 9)])
        for turn in range(2):
            self.assertEqual(first_back(book, stays, "a", 5), 9)
            self.assertEqual(last_day(book, stays, "a", 9), (9, (10, 0, -9)))
            self.assertEqual(stays, [("a", 0, 4)])
        stays[0] = ("a", 0, 3)
        self.assertEqual(first_back(book, stays, "a", 5), 5)
        self.assertEqual(last_day(book, stays, "a", 9), (10, (11, 0, -8)))


class TryingEachDay(unittest.TestCase):
    def test_drawn(self):
        ever = never = at_once = later = none = 0
        for number in range(900):
            draw = Draw(40000 + number)
            rules = draw.rules(draw.whole(1, 4), (0, 20), (1, 9))
            papers = draw.papers(draw.whole(0, 3), len(rules), 40, 8)
            stays = draw.stays(draw.whole(0, 5), 5, 6, 3)
            while fault_plainly(rules, papers, stays) is not None:
                stays.pop()
            first = (stays[-1][2] + 1 if stays else 0) + draw.chance.choice([0, 0, draw.whole(0, 12)])
            land = draw.chance.choice(["a", "a", "b", "c", "d"])
            book = book_of(rules, papers)
            told = last_day(book, stays, land, first)
            self.assertEqual(told, last_day_plainly(rules, papers, stays, land, first), (rules, papers, stays, first))
            if told[0] is not None:
                self.assertEqual(told[1][0], told[0] + 1)
            ever += told[0] is None
            none += told[0] == first - 1
            back = first_back(book, stays, land, first)
            self.assertEqual(back, first_back_plainly(rules, papers, stays, land, first), (rules, papers, stays, first))
            never += back is None
            at_once += back == first
            later += back is not None and back > first
        # Each way it may go is met often enough.
        for met in (ever, never, at_once, later, none):
            self.assertGreater(met, 30)


class Great(unittest.TestCase):
    def in_time(self, asked, *handed):
        begin = time.perf_counter()
        told = asked(*handed)
        self.assertLess(time.perf_counter() - begin, 1)
        return told

    def check_last(self, rules, papers, stays, land, first):
        """The last day is let and the next has the told fault: the tests' own sums say so."""
        told = self.in_time(last_day, book_of(rules, papers), stays, land, first)
        day = 9 * TOP if told[0] is None else told[0] + 1
        self.assertIsNone(wrong_with_fault(rules, papers, stays + [(land, first, day)], told[1]), told)
        if told[0] is not None:
            self.assertEqual(told[1][0], day)
        return told[0]

    def is_let(self, rules, papers, stays, land, day):
        return wrong_with_fault(rules, papers, stays + [(land, day, day)], None) is None

    def check_back(self, rules, papers, stays, land, first, draw):
        told = self.in_time(first_back, book_of(rules, papers), stays, land, first)
        behind = 4 * TOP if told is None else told
        if told is not None:
            self.assertTrue(self.is_let(rules, papers, stays, land, told))
        days = [first, behind - 1] + [day + some for paper in papers for day in paper[1:] for some in (-1, 0, 1)]
        days += [draw.whole(first, behind) for turn in range(20)]
        for day in days:
            if first <= day < behind:
                self.assertFalse(self.is_let(rules, papers, stays, land, day), (rules, papers, stays, day, told))
        return told

    def test_last_day(self):
        rules = [("within", A, 10 ** 7, 3 * 10 ** 7)]
        self.assertEqual(self.check_last(rules, [], [("a", 0, 4 * MILLION)], "a", 10 ** 7), 16 * MILLION - 2)
        rules = [("since", A, 10 ** 7, MILLION)]
        self.assertEqual(self.check_last(rules, [], [("a", 0, MILLION - 1)], "a", 2 * MILLION - 1), 11 * MILLION - 2)
        self.assertEqual(self.check_last(rules, [], [("a", 0, MILLION - 1)], "a", 2 * MILLION), 12 * MILLION - 1)
        first = TOP - 134
        self.assertEqual(self.check_last(rules, [], [("a", 0, 9)], "a", first), first + 10 ** 7 - 1)
        self.assertEqual(self.check_last([("within", A, TOP - 1, TOP)], [], [], "a", first), first + TOP - 2)
        self.assertIsNone(self.check_last([("within", A, TOP, TOP)], [], [], "a", first))
        self.assertEqual(self.check_last([("since", A, TOP, TOP)], [(0, first, TOP)], [], "a", first), 2 * TOP)

    def test_first_back(self):
        draw = Draw(1)
        rules = [("within", A, 10 ** 7, TOP)]
        stays = [("a", 5, 10 ** 7 + 4)]
        self.assertEqual(self.check_back(rules, [], stays, "a", 10 ** 7 + 5, draw), TOP + 5)
        self.assertEqual(self.check_back(rules, [(0, TOP, TOP)], stays, "a", 10 ** 7 + 5, draw), TOP)
        self.assertEqual(self.check_back(rules, [(0, 5, 5)], stays, "a", 10 ** 7 + 5, draw), 10 ** 7 + 5)
        rules = [("since", AB, 10 ** 7, TOP)]
        self.assertEqual(self.check_back(rules, [], stays, "b", 10 ** 7 + 5, draw), TOP + 10 ** 7 + 5)
        stays = [("a", TOP - 10 ** 7 - 134, TOP - 135)]
        self.assertEqual(self.check_back(rules, [], stays, "a", TOP - 134, draw), 2 * TOP - 134)
        rules = [("within", AB, 10 ** 7, TOP)]
        self.assertEqual(self.check_back(rules, [], stays, "a", TOP - 134, draw), 2 * TOP - 10 ** 7 - 134)
        self.assertEqual(self.check_back(rules, [], stays, "b", TOP - 134, draw), 2 * TOP - 10 ** 7 - 132)

    def test_drawn(self):
        for number in range(500):
            rules, papers, stays = drawn_great(50000 + number)
            draw = Draw(number)
            while wrong_with_fault(rules, papers, stays, None) is not None:
                stays.pop()
            first = (stays[-1][2] + 1 if stays else 0) + draw.chance.choice([0, 0, 1, draw.whole(0, 10 ** 7)])
            if first <= TOP - 134:
                for land in ("a", "b"):
                    self.check_last(rules, papers, stays, land, first)
                    self.check_back(rules, papers, stays, land, first, draw)

    def test_sixty_stays(self):
        stays = [("ab"[place % 2], 10 ** 7 * place, 10 ** 7 * place + MILLION - 1) for place in range(60)]
        rules = [("within", AB, 11 * MILLION, 5 * 10 ** 7), ("since", A, 7 * MILLION, 10 ** 7)]
        papers = [(place % 2, 10 ** 7 * place + 50, 10 ** 7 * place + 90) for place in range(54, 62)]
        first = stays[-1][2] + 1
        for day in (first, first + 1, first + 10 ** 7, first + 10 ** 8):
            for land in NAMES:
                self.check_last(rules, papers, stays, land, day)
                self.check_back(rules, papers, stays, land, day, Draw(day))
                self.check_back(rules, papers, stays[:46], land, day, Draw(day))


if __name__ == "__main__":
    unittest.main()
