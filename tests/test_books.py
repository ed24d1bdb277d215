import unittest

from daysgate.books import Book
from daysgate.errors import NoPaper, NoRule
from daysgate.rules import InRow, Rule, Since, Within

TOP = 10 ** 9


def some_rules(many):
    made = []
    for number in range(many):
        lands = [("a", number + 1)]
        made.append([Within(lands, 5, 9), Since(lands, 5, 9), InRow(lands, 5)][number % 3])
    return made


NO_PAPERS = [
    None, True, 0, 5, "", "0 1 2", [], (), [0, 1, 2], (0,), (0, 1), (0, 1, 2, 3), ((0, 1, 2),),
    (-1, 1, 2), (2, 1, 2), (8, 1, 2), (True, 1, 2), (False, 1, 2), (None, 1, 2), ("0", 1, 2), ((0,), 1, 2), ([0], 1, 2),
    (0, -1, 2), (0, 3, 2), (0, 1, 0), (0, TOP + 1, TOP + 1), (0, True, 2), (0, False, 2), (0, None, 2), (0, "1", 2),
    (0, [1], 2), (0, (1,), 2),
    (0, 0, -1), (0, -2, -1), (0, 1, TOP + 1), (0, 1, True), (0, 0, False), (0, 1, None), (0, 1, "2"), (0, 1, [2]),
    (0, 1, (2,)), ("a", 1, 2),
]


class Rules(unittest.TestCase):
    def test_none_to_eight(self):
        for many in range(9):
            made = some_rules(many)
            told = Book(made, []).rules()
            self.assertEqual(len(told), many)
            for rule, same in zip(made, told):
                self.assertIs(rule, same)

    def test_one_rule_may_stand_twice(self):
        rule = InRow([("a", 1)], 5)
        self.assertEqual(Book([rule, rule], [(1, 2, 3)]).rules(), [rule, rule])

    def test_refused(self):
        rule = some_rules(1)[0]
        base = Rule([("a", 1)], 5)
        no_rules = [
            some_rules(9), None, True, 0, "", "row most 5: a 1", (), (rule,), tuple(some_rules(3)), rule, [None], [1],
            [True], ["row most 5: a 1"], [[rule]], [(rule,)], [base], [rule, base], [base, rule], [rule, None],
            [rule, [("a", 1)]], some_rules(7) + [base], some_rules(8) + [None],
        ]
        for things in no_rules:
            with self.subTest(things=things):
                with self.assertRaises(NoRule):
                    Book(things, [])

    def test_no_rule_goes_first(self):
        for papers in (None, [None], [(0, 2, 1)], [(0, 1, 1)] * 13, (), [(5, 1, 1)]):
            for rules in (None, [None], some_rules(9), [Rule([("a", 1)], 5)]):
                with self.subTest(papers=papers, rules=rules):
                    with self.assertRaises(NoRule):
                        Book(rules, papers)


class Papers(unittest.TestCase):
    def number_of(self, rules, papers):
        with self.assertRaises(NoPaper) as taken:
            Book(rules, papers)
        return taken.exception.number

    def test_none_to_twelve(self):
        for many in range(13):
            papers = [(number % 2, 10 - number % 5, 10 + number) for number in range(many)]
            self.assertEqual(Book(some_rules(2), papers).papers(), papers)

    def test_bounds(self):
        papers = [(0, 0, 0), (7, 0, TOP), (3, TOP, TOP), (0, 5, 5), (0, 5, 5)]
        self.assertEqual(Book(some_rules(8), papers).papers(), papers)

    def test_no_paper_at_each_place(self):
        for thing in NO_PAPERS:
            for place in range(12):
                papers = [(1, 4, 6)] * 12
                papers[place] = thing
                with self.subTest(thing=thing, place=place):
                    self.assertEqual(self.number_of(some_rules(2), papers), place)
            with self.subTest(thing=thing):
                self.assertEqual(self.number_of(some_rules(2), [thing]), 0)

    def test_the_first_of_several_is_told(self):
        for first in range(6):
            papers = [(1, 4, 6)] * 6
            for place in range(first, 6):
                papers[place] = NO_PAPERS[place]
            self.assertEqual(self.number_of(some_rules(2), papers), first)

    def test_a_rule_that_is_not_there(self):
        for many in range(9):
            self.assertEqual(self.number_of(some_rules(many), [(number, 1, 1) for number in range(9)]), many)

    def test_too_many(self):
        for many in (13, 14, 40):
            self.assertIsNone(self.number_of(some_rules(2), [(1, 4, 6)] * many))

    def test_a_wrong_one_is_told_ahead_of_too_many(self):
        self.assertEqual(self.number_of(some_rules(2), [(1, 4, 6)] * 12 + [(2, 4, 6)]), 12)
        self.assertEqual(self.number_of(some_rules(2), [None] + [(1, 4, 6)] * 12), 0)
        self.assertEqual(self.number_of(some_rules(2), [(1, 4, 6)] * 20 + [None]), 20)

    def test_no_list(self):
        for things in (None, True, False, 0, 1, "", "papers", (), ((0, 1, 1),), (0, 1, 1)):
            with self.subTest(things=things):
                self.assertIsNone(self.number_of(some_rules(2), things))


class Lifted(unittest.TestCase):
    def test_the_spread_of_the_papers_of_that_rule_alone(self):
        papers = [(0, 20, 30), (1, 1, 2), (0, 5, 9), (0, 10, 12), (1, 4, 4), (0, 25, 27), (3, 0, TOP), (0, 32, 32)]
        book = Book(some_rules(4), papers)
        self.assertEqual(book.lifted(0), [(5, 12), (20, 30), (32, 32)])
        self.assertEqual(book.lifted(1), [(1, 2), (4, 4)])
        self.assertEqual(book.lifted(2), [])
        self.assertEqual(book.lifted(3), [(0, TOP)])

    def test_without_papers(self):
        book = Book(some_rules(8), [])
        for number in range(8):
            self.assertEqual(book.lifted(number), [])

    def test_twelve_papers_of_one_rule(self):
        book = Book(some_rules(1), [(0, 3 * number, 3 * number + 1) for number in range(11, -1, -1)])
        self.assertEqual(book.lifted(0), [(3 * number, 3 * number + 1) for number in range(12)])


class HandedInAndTold(unittest.TestCase):
    def setUp(self):
        self.rules = some_rules(2)
        self.papers = [(1, 4, 6), (0, 1, 2)]
        self.book = Book(self.rules, self.papers)

    def as_made(self):
        self.assertEqual([rule.line() for rule in self.book.rules()], ["within 9 most 5: a 1", "since 9 most 5: a 2"])
        self.assertEqual(self.book.papers(), [(1, 4, 6), (0, 1, 2)])
        self.assertEqual([self.book.lifted(0), self.book.lifted(1)], [[(1, 2)], [(4, 6)]])

    def test_nothing_handed_in_is_changed(self):
        self.assertEqual(self.rules, self.book.rules())
        self.assertEqual(self.papers, [(1, 4, 6), (0, 1, 2)])

    def test_lists_handed_in_are_copied(self):
        self.rules[0] = None
        self.rules.append(None)
        self.papers[0] = (0, 7, 7)
        self.papers.append(None)
        self.as_made()
        self.rules.clear()
        self.papers.clear()
        self.as_made()

    def test_lists_told_are_the_askers_own(self):
        for told in (self.book.rules(), self.book.papers(), self.book.lifted(0), self.book.lifted(1)):
            told.append(None)
            self.as_made()
            told.clear()
            self.as_made()

    def test_arguments_by_name(self):
        self.assertEqual(Book(rules=[], papers=[]).papers(), [])


if __name__ == "__main__":
    unittest.main()
