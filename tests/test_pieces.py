import itertools
import unittest

from daysgate.sums import pieces_of, sum_of
from tests.plain import Draw, TOP, book_of, counted_days

A = [("a", 1)]
AB = [("a", 1), ("b", 3)]


class Pieces(unittest.TestCase):
    def pieces(self, papers, stays, lands=AB):
        """The same of all three kinds: pieces do not hang on the window."""
        told = [pieces_of(book_of([(kind, lands, 5, 7)], papers), 0, stays) for kind in ("within", "since", "row")]
        self.assertEqual(told[0], told[1])
        self.assertEqual(told[0], told[2])
        return told[0]

    def test_without_papers(self):
        self.assertEqual(self.pieces([], []), [])
        self.assertEqual(self.pieces([], [("a", 3, 3)]), [(3, 3, 1)])
        self.assertEqual(self.pieces([], [("a", 3, 9), ("b", 20, 22)]), [(3, 9, 1), (20, 22, 3)])

    def test_lands_without_weight(self):
        self.assertEqual(self.pieces([], [("c", 3, 9)]), [])
        self.assertEqual(self.pieces([(0, 4, 5)], [("c", 3, 9), ("a", 12, 12), ("d", 13, 20)]), [(12, 12, 1)])

    def test_stays_that_touch_are_two_pieces(self):
        self.assertEqual(self.pieces([], [("a", 3, 5), ("a", 6, 6), ("b", 7, 9)]), [(3, 5, 1), (6, 6, 1), (7, 9, 3)])

    def test_a_paper_that_cuts_one_stay(self):
        for papers, wanted in (
            ([(0, 10, 10)], [(11, 20, 1)]),
            ([(0, 5, 12)], [(13, 20, 1)]),
            ([(0, 20, 20)], [(10, 19, 1)]),
            ([(0, 18, 30)], [(10, 17, 1)]),
            ([(0, 14, 15)], [(10, 13, 1), (16, 20, 1)]),
            ([(0, 11, 19)], [(10, 10, 1), (20, 20, 1)]),
            ([(0, 12, 13), (0, 16, 16)], [(10, 11, 1), (14, 15, 1), (17, 20, 1)]),
            ([(0, 16, 16), (0, 12, 13)], [(10, 11, 1), (14, 15, 1), (17, 20, 1)]),
            ([(0, 10, 20)], []),
            ([(0, 0, TOP)], []),
            ([(0, 10, 14), (0, 15, 20)], []),
        ):
            self.assertEqual(self.pieces(papers, [("a", 10, 20)]), wanted, papers)

    def test_papers_that_overlap_touch_stand_in_any_order_or_lie_outside(self):
        papers = [(0, 12, 14), (0, 13, 16), (0, 17, 17), (0, 0, 9), (0, 21, 40)]
        for some in itertools.permutations(papers):
            self.assertEqual(self.pieces(some, [("b", 10, 20)]), [(10, 11, 3), (18, 20, 3)])

    def test_one_paper_over_two_stays(self):
        stays = [("a", 3, 6), ("b", 7, 9), ("a", 12, 14)]
        self.assertEqual(self.pieces([(0, 6, 7)], stays), [(3, 5, 1), (8, 9, 3), (12, 14, 1)])
        self.assertEqual(self.pieces([(0, 5, 12)], stays), [(3, 4, 1), (13, 14, 1)])
        self.assertEqual(self.pieces([(0, 10, 11)], stays), [(3, 6, 1), (7, 9, 3), (12, 14, 1)])

    def test_papers_and_weights_of_the_asked_rule_alone(self):
        book = book_of([("row", A, 5, 1), ("within", [("b", 2)], 5, 3), ("since", AB, 5, 4)], [(0, 4, 4), (2, 5, 5)])
        stays = [("a", 3, 6), ("b", 8, 9)]
        self.assertEqual(pieces_of(book, 0, stays), [(3, 3, 1), (5, 6, 1)])
        self.assertEqual(pieces_of(book, 1, stays), [(8, 9, 2)])
        self.assertEqual(pieces_of(book, 2, stays), [(3, 4, 1), (6, 6, 1), (8, 9, 3)])

    def test_great_days(self):
        self.assertEqual(self.pieces([], [("a", 0, TOP)]), [(0, TOP, 1)])
        self.assertEqual(self.pieces([(0, 1, TOP - 1)], [("a", 0, TOP)]), [(0, 0, 1), (TOP, TOP, 1)])
        self.assertEqual(self.pieces([(0, 0, 0), (0, TOP, TOP)], [("a", 0, TOP)]), [(1, TOP - 1, 1)])

    def test_forty_stays_and_five_papers(self):
        stays = [("a", 10 * place, 10 * place + 8) for place in range(40)]
        papers = [(0, 10 * place + 4, 10 * place + 4) for place in (0, 7, 20, 38, 39)]
        told = self.pieces(papers, stays)
        self.assertEqual(len(told), 45)
        self.assertEqual(told[:3], [(0, 3, 1), (5, 8, 1), (10, 18, 1)])
        self.assertEqual(told[-2:], [(390, 393, 1), (395, 398, 1)])

    def test_drawn_against_single_days(self):
        for number in range(300):
            draw = Draw(number)
            rules = draw.rules(2, (0, 9), (1, 9))
            papers = draw.papers(draw.whole(0, 5), 2, 60, 9)
            stays = draw.stays(draw.whole(0, 9), 6, 5, 9)
            for place in range(2):
                wanted = []
                counted = counted_days(rules, papers, place, stays)
                for land, first, last in stays:
                    for day in range(first, last + 1):
                        if day in counted and wanted and first < day == wanted[-1][1] + 1:
                            wanted[-1] = (wanted[-1][0], day, counted[day])
                        elif day in counted:
                            wanted.append((day, day, counted[day]))
                self.assertEqual(pieces_of(book_of(rules, papers), place, stays), wanted)


class Sums(unittest.TestCase):
    def test_ordinary(self):
        pieces = [(3, 5, 1), (6, 6, 9), (10, 13, 2)]
        for first, last, wanted in (
            (0, 20, 20), (3, 13, 20), (3, 5, 3), (4, 4, 1), (4, 6, 11), (5, 10, 12), (6, 6, 9), (7, 9, 0), (8, 8, 0),
            (0, 2, 0), (14, 99, 0), (-9, -1, 0), (12, 12, 2), (11, 12, 4), (9, 11, 4), (13, 99, 2), (-99, 3, 1),
        ):
            self.assertEqual(sum_of(pieces, first, last), wanted, (first, last))

    def test_the_first_behind_the_last(self):
        pieces = [(3, 5, 1), (6, 6, 9), (10, 13, 2)]
        for last in range(-2, 16):
            for first in range(last + 1, last + 15):
                self.assertEqual(sum_of(pieces, first, last), 0, (first, last))

    def test_no_pieces(self):
        self.assertEqual(sum_of([], 0, 9), 0)
        self.assertEqual(sum_of([], 9, 0), 0)

    def test_great_numbers(self):
        pieces = [(0, 10 ** 6, 9), (10 ** 8, TOP, 7)]
        self.assertEqual(sum_of(pieces, -TOP, 2 * TOP), 9 * (10 ** 6 + 1) + 7 * (9 * 10 ** 8 + 1))
        self.assertEqual(sum_of(pieces, 10 ** 6, 10 ** 8), 16)
        self.assertEqual(sum_of(pieces, 10 ** 6 + 1, 10 ** 8 - 1), 0)
        self.assertEqual(sum_of(pieces, 5 * 10 ** 8, 2 * TOP), 7 * (5 * 10 ** 8 + 1))

    def test_drawn_against_single_days(self):
        for number in range(60):
            draw = Draw(number)
            rules = draw.rules(1, (0, 9), (1, 9))
            papers = draw.papers(draw.whole(0, 5), 1, 40, 9)
            stays = draw.stays(draw.whole(0, 6), 6, 5, 5)
            counted = counted_days(rules, papers, 0, stays)
            pieces = pieces_of(book_of(rules, papers), 0, stays)
            for first in range(-2, 50, 2):
                for last in range(-3, 50):
                    wanted = sum(counted.get(day, 0) for day in range(first, last + 1))
                    self.assertEqual(sum_of(pieces, first, last), wanted)


class Told(unittest.TestCase):
    def test_what_is_told_is_the_askers_own(self):
        book = book_of([("row", AB, 5, 1)], [(0, 4, 4)])
        stays = [("a", 3, 6), ("b", 8, 9)]
        wanted = [(3, 3, 1), (5, 6, 1), (8, 9, 3)]
        told = pieces_of(book, 0, stays)
        told[0] = None
        told.append((50, 60, 1))
        self.assertEqual(pieces_of(book, 0, stays), wanted)
        told.clear()
        kept = pieces_of(book, 0, stays)
        stays.clear()
        self.assertEqual(kept, wanted)
        self.assertEqual(pieces_of(book, 0, stays), [])
        self.assertEqual(book.papers(), [(0, 4, 4)])

    def test_pieces_handed_in_stay(self):
        pieces = [(3, 3, 1), (5, 6, 1)]
        self.assertEqual(sum_of(pieces, 0, 9), 3)
        self.assertEqual(pieces, [(3, 3, 1), (5, 6, 1)])


if __name__ == "__main__":
    unittest.main()
