"""The whole: desks held against the functions beneath and against single days, and lists that are the asker's own."""

import copy
import unittest

from daysgate.books import Book
from daysgate.compare import parted
from daysgate.days import both, holds, less, size, spread
from daysgate.desk import Desk
from daysgate.diary import Diary, changed_days
from daysgate.errors import DayError, NotLet
from daysgate.limits import first_back, last_day
from daysgate.meaning import count_by_days, fault_by_days, weight_on
from daysgate.plans import plan_of, stays_by
from daysgate.rules import InRow, Since, Within
from daysgate.stays import land_on, stays_of
from daysgate.sums import count_of, fault_of, pieces_of, sum_of
from tests.plain import Draw, TOP, book_of, count_plainly, drawn_great, fault_plainly, rule_of, rows_of, stays_in


def rows_in(draw, rules, papers, stays):
    """The rows that tell all this: rules in their order, papers behind their rules, the stays at any place."""
    rows = ["rule " + rule_of(told).line() for told in rules] + ["paper %d %d %d" % paper for paper in papers]
    for stay in draw.chance.sample(stays, len(stays)):
        rows.insert(draw.whole(0, len(rows)), "stay %s %d %d" % stay)
    return rows


def as_text(thing):
    return " ".join(str(part) for part in thing)


def asked(ask, *handed):
    """What it tells, or the refusal with its values."""
    try:
        return ask(*handed)
    except DayError as error:
        return (type(error), vars(error))


class Desks(unittest.TestCase):
    def desk_of(self, draw, rules, papers, stays):
        desk = Desk()
        for row in rows_in(draw, rules, papers, stays):
            desk.say(row)
        self.assertEqual(desk.say("rules"), " | ".join(rule_of(told).line() for told in rules))
        self.assertEqual(desk.say("stays"), ", ".join(as_text(stay) for stay in stays))
        return desk

    def check_questions(self, draw, desk, book, stays, days):
        fault = fault_of(book, stays)
        self.assertEqual(desk.say("check"), "let" if fault is None else as_text(fault))
        for number in range(len(book.rules())):
            for day in days:
                self.assertEqual(desk.say(f"count {number} {day}"), str(count_of(book, number, stays, day)))
        for day in days:
            for land in ("a", "b", "d"):
                self.check_limits(desk, book, stays, land, day)
            wishes = draw.chance.sample(["a", "b", "c", "d"], 2)
            many = draw.whole(0, 9)
            told = asked(desk.say, f"plan {day} {many} {wishes[0]} {wishes[1]}")
            wanted = asked(plan_of, book, stays, wishes, day, many)
            if isinstance(wanted, list):
                wanted = " ".join(land or "-" for place, land, passed in wanted)
            self.assertEqual(told, wanted)

    def check_limits(self, desk, book, stays, land, day):
        wanted = asked(last_day, book, stays, land, day)
        if wanted[0] is None:
            wanted = "ever"
        elif isinstance(wanted[0], int):
            wanted = f"{wanted[0]}: {as_text(wanted[1])}"
        self.assertEqual(asked(desk.say, f"last {land} {day}"), wanted)
        wanted = asked(first_back, book, stays, land, day)
        if not isinstance(wanted, tuple):
            wanted = "never" if wanted is None else str(wanted)
        self.assertEqual(asked(desk.say, f"back {land} {day}"), wanted)

    def test_drawn(self):
        let = 0
        for number in range(250):
            draw = Draw(10000 + number)
            rules = draw.rules(draw.whole(0, 4), (0, 20), (1, 12))
            papers = draw.papers(draw.whole(0, 4), len(rules), 60, 8)
            stays = draw.stays(draw.whole(0, 8), 6, 6, 4)
            if number % 3:
                while fault_plainly(rules, papers, stays) is not None:
                    stays.pop()
            desk = self.desk_of(draw, rules, papers, stays)
            last = stays[-1][2] if stays else -1
            days = [last + 1, last + draw.whole(1, 20), draw.whole(0, 60), max(last, 0)]
            self.check_questions(draw, desk, book_of(rules, papers), stays, days)
            fault = fault_plainly(rules, papers, stays)
            self.assertEqual(desk.say("check"), "let" if fault is None else as_text(fault))
            for place in range(len(rules)):
                for day in days:
                    self.assertEqual(desk.say(f"count {place} {day}"),
                                     str(count_plainly(rules, papers, place, stays, day)))
            let += fault is None
        self.assertGreater(let, 100)
        self.assertLess(let, 230)

    def test_drawn_great(self):
        for number in range(60):
            rules, papers, stays = drawn_great(11000 + number, (0, 20), (0, 4), (0, 5))
            draw = Draw(number)
            if number % 3:
                while fault_of(book_of(rules, papers), stays) is not None:
                    stays.pop()
            desk = self.desk_of(draw, rules, papers, stays)
            last = stays[-1][2] if stays else -1
            days = [day for day in (last + 1, last + draw.whole(1, 10 ** 7), draw.whole(0, TOP)) if day <= TOP - 134]
            self.check_questions(draw, desk, book_of(rules, papers), stays, days)

    def test_a_desk_and_a_diary(self):
        for number in range(60):
            draw = Draw(12000 + number)
            desk = Desk()
            diary = Diary(book_of([]))
            for turn in range(40):
                first = draw.whole(0, 40)
                last = first + draw.whole(-1, 4)
                place = draw.whole(0, 6)
                land = draw.chance.choice(["a", "b", "A"])
                row, deed, handed = draw.chance.choice([
                    (f"stay {land} {first} {last}", diary.put, (land, first, last)),
                    (f"stay {land} {first} {last}", diary.put, (land, first, last)),
                    (f"move {place} {first} {last}", diary.move, (place, first, last)),
                    (f"take {place}", diary.take, (place,)), ("undo", diary.undo, ()),
                    (f"rule row most {place}: a 1", None, ()), (f"paper 0 {first} {first}", None, ()),
                ] if last >= 0 else [("undo", diary.undo, ())])
                told = asked(desk.say, row)
                if deed is not None:
                    wanted = asked(deed, *handed)
                    if isinstance(wanted, list):
                        wanted = "ok"
                    elif isinstance(wanted[0], int):
                        wanted = str(wanted[0])
                    self.assertEqual(told, wanted)
                self.assertEqual(desk.say("stays"), ", ".join(as_text(stay) for stay in diary.stays()))


class Promise(unittest.TestCase):
    """The sentences of the whole, one by one, on books, stays and days that are drawn."""

    def test_each_sentence(self):
        for number in range(150):
            draw = Draw(13000 + number)
            rules = draw.rules(draw.whole(1, 3), (0, 14), (1, 9))
            papers = draw.papers(draw.whole(0, 3), len(rules), 40, 6)
            stays = draw.stays(draw.whole(0, 6), 4, 5, 3)
            book = book_of(rules, papers)
            fault = fault_plainly(rules, papers, stays)
            self.assertEqual(fault_of(book, stays), fault)
            self.assertEqual(fault_by_days(book, stays), fault)
            if fault is not None:
                self.assertEqual(asked(last_day, book, stays, "a", 900)[0], NotLet)
                continue
            first = stays[-1][2] + 1 if stays else 0
            last, broken = last_day(book, stays, "a", first)
            if last is not None:
                self.assertEqual(fault_of(book, stays + [("a", first, last + 1)]), broken)
                if last >= first:
                    self.assertIsNone(fault_of(book, stays + [("a", first, last)]))
            back = first_back(book, stays, "a", first)
            for day in range(first, first + 40 if back is None else back):
                lifted = fault_plainly(rules, papers, stays + [("a", day, day)])
                self.assertIsNotNone(lifted)
            if back is not None:
                self.assertIsNone(fault_plainly(rules, papers, stays + [("a", back, back)]))
            self.check_plan(rules, papers, stays, first)

    def check_plan(self, rules, papers, stays, first):
        book = book_of(rules, papers)
        plan = plan_of(book, stays, ["a", "b"], first, 4)
        row = [land for day, land, passed in plan]
        for other in rows_of(["a", "b"], 4):
            if list(other) == row:
                break
            self.assertIsNotNone(fault_plainly(rules, papers, stays + stays_in(other, first)))
        told = stays_by(stays, plan)
        self.assertIsNone(fault_of(book, told))
        for number in range(len(rules)):
            changed = changed_days(book, number, stays, told)
            for day in range(-2, first + 20):
                same = count_of(book, number, stays, day) == count_of(book, number, told, day)
                self.assertEqual(holds(changed, day), not same)


def every_call():
    """Each function, with what is handed in: none of it is changed, and what is told is a new list each time."""
    book = Book([Within([("a", 1), ("b", 2)], 5, 9), Since([("a", 1)], 4, 3), InRow([("b", 1)], 2)], [(0, 3, 4), (1, 1, 1)])
    stays = [("a", 0, 1), ("b", 3, 4)]
    one = [(1, 5), (8, 12)]
    other = [(4, 9)]
    plan = [(5, "a", []), (6, "b", [("a", (6, 0, -2))]), (7, None, [])]
    return [
        (spread, ([(8, 12), (1, 3), (4, 5)],)), (both, (one, other)), (less, (one, other)), (less, (one, [])),
        (both, (one, one)), (spread, (one,)), (size, (one,)), (holds, (one, 4)),
        (book.rules, ()), (book.papers, ()), (book.lifted, (0,)), (book.lifted, (2,)),
        (stays_of, (stays,)), (land_on, (stays, 3)), (weight_on, (book, 0, stays, 1)),
        (count_by_days, (book, 0, stays, 5)), (fault_by_days, (book, stays)),
        (pieces_of, (book, 0, stays)), (sum_of, ([(0, 3, 2)], 1, 9)), (count_of, (book, 0, stays, 5)),
        (fault_of, (book, stays)), (last_day, (book, stays, "a", 9)), (first_back, (book, stays, "a", 9)),
        (plan_of, (book, stays, ["b", "a"], 9, 6)), (plan_of, (book, stays, ["c"], 9, 0)),
        (stays_by, (stays, plan)), (stays_by, (stays, [])),
        (changed_days, (book, 0, stays, stays[:1])), (changed_days, (book, 0, stays, stays)),
        (parted, (book, Book([], []), ["a", "b"], 4)),
    ]


def spoil(thing):
    """Change every list in what was told."""
    if isinstance(thing, (list, tuple)):
        for part in thing:
            spoil(part)
    if isinstance(thing, list):
        thing.reverse()
        thing.append("spoilt")


def shown(thing):
    """A text of it that shows rules by their lines."""
    if isinstance(thing, (list, tuple)):
        return [shown(part) for part in thing]
    if isinstance(thing, Book):
        return shown([thing.rules(), thing.papers()])
    return thing.line() if isinstance(thing, Since) or isinstance(thing, Within) else repr(thing)


class AskersOwn(unittest.TestCase):
    def test_nothing_handed_in_is_changed(self):
        for ask, handed in every_call():
            with self.subTest(ask=ask):
                kept = shown(handed)
                told = ask(*handed)
                again = ask(*handed)
                self.assertEqual(shown(told), shown(again))
                self.assertEqual(shown(handed), kept)

    def test_what_is_told_may_be_changed(self):
        for ask, handed in every_call():
            with self.subTest(ask=ask):
                kept = shown(handed)
                told = ask(*handed)
                wanted = shown(told)
                second = ask(*handed)
                spoil(told)
                self.assertEqual(shown(second), wanted)
                self.assertEqual(shown(handed), kept)
                self.assertEqual(shown(ask(*handed)), wanted)

    def test_what_is_handed_in_may_be_changed_afterwards(self):
        for ask, handed in every_call():
            with self.subTest(ask=ask):
                mine = tuple(copy.deepcopy(part) if isinstance(part, list) else part for part in handed)
                told = ask(*mine)
                wanted = shown(told)
                spoil(mine)
                self.assertEqual(shown(told), wanted)
                self.assertEqual(shown(ask(*handed)), wanted)

    def test_books_and_rules_keep_copies(self):
        lands = [("a", 1)]
        rules = [Within(lands, 5, 9)]
        papers = [(0, 1, 2)]
        book = Book(rules, papers)
        desk_line = rules[0].line()
        spoil(lands)
        spoil(rules)
        spoil(papers)
        self.assertEqual([rule.line() for rule in book.rules()], [desk_line])
        self.assertEqual((book.papers(), book.lifted(0)), ([(0, 1, 2)], [(1, 2)]))


if __name__ == "__main__":
    unittest.main()
