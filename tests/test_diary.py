"""The diary: its deeds, what they tell, what is taken back and what is refused."""

import unittest

from daysgate.diary import Diary, changed_days
from daysgate.errors import DayError, NoDeed, NoPaper, NoRow, NoRule, NoStay, NoText, NotLet, NoWish
from tests.plain import Draw, TOP, book_of, changed_plainly

OTHERS = [NoDeed, NoPaper, NoRow, NoRule, NoStay, NoText, NotLet, NoWish]
RULES = [("within", [("a", 1), ("b", 2)], 5, 6), ("since", [("a", 1)], 5, 3), ("row", [("b", 1)], 2, 1)]
PAPERS = [(0, 20, 22), (1, 4, 4)]
NO_LANDS = ["", "abcdefghi", "A", "a1", "1", "a b", " a", "a ", "a\n", "\u00e9", "-", None, True, False, 0, 5, [], ["a"],
            ("a",), ()]


def diary_with(stays, rules=RULES, papers=PAPERS):
    diary = Diary(book_of(rules, papers))
    for stay in stays:
        diary.put(*stay)
    return diary


def changes_of(old, new, rules=RULES, papers=PAPERS):
    return [changed_plainly(rules, papers, number, old, new) for number in range(len(rules))]


class Told(unittest.TestCase):
    def check(self, diary, deed, wanted, rules=RULES, papers=PAPERS):
        """What a deed tells, and the stays behind it; told again as the spreads of changed days."""
        old = diary.stays()
        told = deed(diary)
        place = None
        if isinstance(told, tuple):
            place, told = told
        self.assertEqual(diary.stays(), wanted)
        self.assertEqual(told, changes_of(old, wanted, rules, papers))
        return place


class Putting(Told):
    def put(self, stays, stay, place):
        wanted = stays[:place] + [stay] + stays[place:]
        diary = diary_with(stays)
        self.assertEqual(self.check(diary, lambda some: some.put(*stay), wanted), place)
        self.assertIsNone(self.check(diary, lambda some: some.undo(), stays))

    def test_none_at_first(self):
        self.assertEqual(Diary(book_of(RULES)).stays(), [])
        self.assertEqual(Diary(book_of([])).stays(), [])

    def test_the_first(self):
        self.assertEqual(diary_with([]).put("a", 3, 6), (0, [[(3, 11)], [(3, 8)], []]))
        self.assertEqual(Diary(book_of([])).put("a", 3, 6), (0, []))
        self.assertEqual(Diary(book_of([("row", [("b", 1)], 1, 1)])).put("a", 3, 6), (0, [[]]))
        for stay in (("a", 0, 0), ("b", 0, 40), ("c", 7, 9)):
            self.put([], stay, 0)

    def test_at_the_begin_the_end_amid_and_touching(self):
        stays = [("a", 10, 12), ("b", 20, 21), ("a", 30, 30)]
        for stay, place in (
            (("b", 0, 3), 0), (("b", 9, 9), 0), (("a", 0, 9), 0), (("b", 13, 13), 1), (("a", 13, 19), 1),
            (("a", 15, 16), 1), (("c", 19, 19), 1), (("a", 22, 22), 2), (("b", 22, 29), 2), (("a", 31, 31), 3),
            (("b", 50, 60), 3), (("a", 0, 0), 0),
        ):
            self.put(stays, stay, place)

    def test_the_bounds(self):
        book = book_of([("within", [("a", 1)], 5, 6)])
        self.assertEqual(Diary(book).put("a", TOP, TOP), (0, [[(TOP, TOP + 5)]]))
        self.assertEqual(Diary(book).put("a", 0, TOP), (0, [[(0, TOP + 5)]]))
        self.assertEqual(Diary(book).put("abcdefgh", 0, 0), (0, [[]]))

    def test_in_any_order(self):
        stays = [("a", 1, 2), ("b", 4, 4), ("a", 6, 9), ("c", 10, 10), ("b", 14, 15)]
        for number in range(40):
            some = list(stays)
            Draw(number).chance.shuffle(some)
            diary = diary_with([])
            kept = []
            for stay in some:
                kept = sorted(kept + [stay], key=lambda one: one[1])
                self.assertEqual(self.check(diary, lambda one: one.put(*stay), kept), kept.index(stay))
            self.assertEqual(diary.stays(), stays)

    def test_sixty(self):
        diary = Diary(book_of([("row", [("a", 1)], 5, 1)]))
        for place in range(60):
            self.assertEqual(diary.put("a", 3 * place, 3 * place), (place, [[(3 * place, 3 * place)]]))
        self.assertEqual(diary.stays(), [("a", 3 * place, 3 * place) for place in range(60)])


class TakingAndMoving(Told):
    STAYS = [("a", 10, 12), ("b", 20, 21), ("a", 22, 22), ("c", 30, 33)]

    def test_take_each_number(self):
        for number in range(4):
            diary = diary_with(self.STAYS)
            wanted = self.STAYS[:number] + self.STAYS[number + 1:]
            self.check(diary, lambda some: some.take(number), wanted)
            self.check(diary, lambda some: some.undo(), self.STAYS)

    def test_take_all(self):
        diary = diary_with(self.STAYS)
        for left in ([0, 1, 3], [0, 1], [1], []):
            number = [2, 2, 0, 0][3 - len(left)]
            self.check(diary, lambda some: some.take(number), [self.STAYS[place] for place in left])

    def move(self, number, first, last, wanted):
        diary = diary_with(self.STAYS)
        self.check(diary, lambda some: some.move(number, first, last), wanted)
        self.check(diary, lambda some: some.undo(), self.STAYS)

    def test_move_each_number(self):
        for number, (land, first, last) in enumerate(self.STAYS):
            others = self.STAYS[:number] + self.STAYS[number + 1:]
            for days in ((first, last), (first, first), (last, last), (0, 5), (13, 15), (25, 28), (40, 45), (23, 29)):
                wanted = sorted(others + [(land,) + days], key=lambda stay: stay[1])
                self.move(number, days[0], days[1], wanted)

    def test_onto_its_own_days_and_over_its_old_days(self):
        for first, last in ((10, 12), (11, 13), (9, 10), (12, 12), (8, 15), (0, 19), (13, 14)):
            self.move(0, first, last, [("a", first, last)] + self.STAYS[1:])
        for first, last in ((20, 21), (20, 20), (21, 21), (13, 21), (13, 13)):
            self.move(1, first, last, [self.STAYS[0], ("b", first, last)] + self.STAYS[2:])

    def test_ahead_of_and_behind_others(self):
        one, two, three, four = self.STAYS
        self.move(3, 0, 9, [("c", 0, 9), one, two, three])
        self.move(0, 34, 34, [two, three, four, ("a", 34, 34)])
        self.move(1, 25, 26, [one, three, ("b", 25, 26), four])
        self.move(2, 13, 19, [one, ("a", 13, 19), two, four])

    def test_deeds_that_change_nothing_are_deeds(self):
        diary = diary_with([("a", 1, 2)])
        self.assertEqual(diary.move(0, 1, 2), [[], [], []])
        self.assertEqual(diary.put("c", 5, 6), (1, [[], [], []]))
        self.assertEqual(diary.move(1, 7, 8), [[], [], []])
        self.assertEqual(diary.take(1), [[], [], []])
        for wanted in ([("c", 7, 8)], [("c", 5, 6)], [], []):
            self.assertEqual(diary.undo(), [[], [], []])
            self.assertEqual(diary.stays(), [("a", 1, 2)] + wanted)
        diary.undo()
        self.assertEqual(diary.stays(), [])
        with self.assertRaises(NoDeed):
            diary.undo()


class TakingBack(Told):
    def test_each_kind_of_deed_one_by_one(self):
        diary = diary_with([])
        steps = [[]]
        for deed in (
            lambda: diary.put("a", 5, 8), lambda: diary.put("b", 1, 2), lambda: diary.move(1, 4, 6),
            lambda: diary.put("a", 20, 30), lambda: diary.take(0), lambda: diary.move(0, 4, 6),
            lambda: diary.move(0, 90, 91), lambda: diary.take(1), lambda: diary.take(0),
        ):
            deed()
            steps.append(diary.stays())
        while len(steps) > 1:
            steps.pop()
            self.check(diary, lambda some: some.undo(), steps[-1])
        for turn in range(3):
            self.assertRaises(NoDeed, diary.undo)
            self.assertEqual(diary.stays(), [])
        self.check(diary, lambda some: some.put("a", 5, 8), [("a", 5, 8)])

    def test_what_is_taken_back_is_no_deed(self):
        diary = diary_with([("a", 1, 2), ("a", 4, 4)])
        diary.undo()
        diary.undo()
        with self.assertRaises(NoDeed):
            diary.undo()

    def test_a_deed_behind_one_taken_back(self):
        diary = diary_with([("a", 1, 2), ("a", 4, 4)])
        diary.undo()
        diary.put("b", 7, 7)
        self.check(diary, lambda some: some.undo(), [("a", 1, 2)])
        self.check(diary, lambda some: some.undo(), [])

    def test_no_deed_at_first(self):
        for rules in ([], RULES):
            diary = Diary(book_of(rules))
            with self.assertRaises(NoDeed) as taken:
                diary.undo()
            self.assertIs(type(taken.exception), NoDeed)
            self.assertIsInstance(taken.exception, DayError)
            self.assertIsInstance(taken.exception, ValueError)
            self.assertEqual([other for other in OTHERS if isinstance(taken.exception, other)], [NoDeed])

    def test_two_diaries_of_one_book(self):
        book = book_of(RULES)
        one = Diary(book)
        other = Diary(book)
        one.put("a", 1, 2)
        self.assertEqual(other.stays(), [])
        self.assertRaises(NoDeed, other.undo)
        other.put("b", 1, 1)
        one.undo()
        self.assertEqual((one.stays(), other.stays()), ([], [("b", 1, 1)]))


class Refused(unittest.TestCase):
    STAYS = [("a", 10, 12), ("b", 20, 21), ("a", 22, 22), ("c", 30, 33)]

    def refusal(self, diary, number, deed, *handed):
        kept = diary.stays()
        with self.subTest(deed=deed, handed=handed):
            with self.assertRaises(NoStay) as taken:
                getattr(diary, deed)(*handed)
            error = taken.exception
            self.assertIs(type(error), NoStay)
            self.assertIsInstance(error, DayError)
            self.assertIsInstance(error, ValueError)
            self.assertEqual([other for other in OTHERS if isinstance(error, other)], [NoStay])
            self.assertEqual(error.number, number)
            self.assertEqual(diary.stays(), kept)

    def test_days_in_common_with_another(self):
        diary = diary_with(self.STAYS)
        for first, last, number in (
            (9, 10, 0), (0, 99, 0), (0, 20, 0), (10, 10, 1), (10, 12, 1), (12, 12, 1), (12, 13, 1), (11, 11, 1),
            (13, 20, 1), (19, 25, 1), (20, 20, 2), (21, 21, 2), (21, 23, 2), (22, 22, 3), (22, 40, 3), (23, 30, 3),
            (30, 30, 4), (33, 33, 4), (33, 90, 4),
        ):
            for land in ("a", "b", "d"):
                self.refusal(diary, number, "put", land, first, last)

    def test_days_that_are_none(self):
        diary = diary_with(self.STAYS)
        for first, last, number in (
            (-1, 5, 0), (-1, -1, 0), (-TOP, 0, 0), (-1, 99, 0), (5, 4, 0), (5, -5, 0), (9, 8, 0), (14, 13, 1),
            (14, 0, 1), (10, 9, 1), (20, 19, 2), (22, 21, 3), (25, 24, 3), (40, 39, 4), (40, TOP + 1, 4), (TOP, TOP + 1, 4),
            (TOP + 1, TOP + 1, 4), (TOP + 1, TOP, 4), (TOP + 5, 7, 4), (10 ** 30, 10 ** 30, 4), (0, 10 ** 30, 0),
        ):
            self.refusal(diary, number, "put", "a", first, last)
        self.refusal(diary_with([]), 0, "put", "a", -1, 5)
        self.refusal(diary_with([]), 0, "put", "a", TOP + 1, TOP + 1)

    def test_lands_that_are_no_names(self):
        diary = diary_with(self.STAYS)
        for land in NO_LANDS:
            for first, number in ((5, 0), (15, 1), (25, 3), (40, 4), (10, 1), (33, 4)):
                self.refusal(diary, number, "put", land, first, first)
            self.refusal(diary_with([]), 0, "put", land, 5, 5)
            self.refusal(diary, 0, "put", land, -5, -9)

    def test_a_sixty_first_stay(self):
        diary = diary_with([("a", 10 * place + 5, 10 * place + 6) for place in range(60)], [], [])
        for first, number in ((0, 0), (4, 0), (7, 1), (14, 1), (15, 2), (300, 30), (305, 31), (599, 60), (700, 60)):
            self.refusal(diary, number, "put", "a", first, first)
        # Moved, they are no more than they were.
        self.assertEqual(diary.move(59, 0, 1), [])
        self.assertEqual(diary.move(0, 900, 901), [])
        diary.take(7)
        self.assertEqual(diary.put("b", 2, 3), (0, []))
        self.refusal(diary, 60, "put", "b", 950, 950)

    def test_numbers_that_are_none(self):
        for many in (0, 1, 4):
            diary = diary_with(self.STAYS[:many])
            for number in (-1, -many - 1, many, many + 1, 60, 10 ** 30, None, True, False, "0", [], [0], (), (0,)):
                self.refusal(diary, number, "take", number)
                for days in ((40, 41), (-1, -1), (5, 4), (TOP + 1, TOP + 2), (10, 10)):
                    self.refusal(diary, number, "move", number, *days)

    def test_move_onto_another_or_onto_days_that_are_none(self):
        diary = diary_with(self.STAYS)
        for number, first, last, told in (
            (0, 20, 20, 1), (0, 19, 20, 0), (0, 10, 20, 0), (0, 21, 21, 1), (0, 22, 22, 2), (0, 33, 34, 3),
            (0, 0, 99, 0), (1, 12, 13, 1), (1, 10, 10, 1), (1, 9, 10, 0), (1, 20, 22, 1), (1, 22, 22, 2), (1, 31, 31, 3),
            (2, 21, 22, 2), (2, 20, 20, 2), (2, 22, 30, 2), (2, 9, 12, 0), (3, 22, 22, 3), (3, 21, 33, 2),
            (0, -1, 5, 0), (1, -1, 5, 0), (1, 20, 19, 1), (1, 21, 20, 1), (3, 5, 4, 0), (0, 40, 39, 3),
            (2, TOP + 1, TOP + 1, 3), (2, 40, TOP + 1, 3), (2, 10 ** 30, 0, 3), (3, -3, -2, 0), (1, 10, 9, 1), (2, 10, 9, 1),
        ):
            self.refusal(diary, told, "move", number, first, last)

    def test_what_is_refused_is_no_deed(self):
        diary = diary_with(self.STAYS[:2])
        for turn in range(3):
            self.refusal(diary, 1, "put", "a", 10, 10)
            self.refusal(diary, 0, "put", "A", 5, 5)
            self.refusal(diary, 2, "take", 2)
            self.refusal(diary, 0, "move", 1, 0, 99)
        self.assertEqual(diary.undo(), changes_of(self.STAYS[:2], self.STAYS[:1]))
        self.refusal(diary, 1, "take", 1)
        self.assertEqual(diary.undo(), changes_of(self.STAYS[:1], []))
        for turn in range(2):
            self.assertRaises(NoDeed, diary.undo)
        self.refusal(diary, 0, "take", 0)
        self.assertRaises(NoDeed, diary.undo)
        self.assertEqual(diary.put("c", 1, 1), (0, [[], [], []]))


class AskersOwn(unittest.TestCase):
    def test_stays_told(self):
        diary = diary_with([("a", 1, 2), ("b", 4, 4)])
        told = diary.stays()
        told.clear()
        self.assertEqual(diary.stays(), [("a", 1, 2), ("b", 4, 4)])
        told = diary.stays()
        told[0] = "x"
        told.append(("a", 9, 9))
        kept = diary.stays()
        diary.take(0)
        self.assertEqual(kept, [("a", 1, 2), ("b", 4, 4)])
        after = diary.stays()
        after.append("x")
        diary.undo()
        self.assertEqual(diary.stays(), kept)
        diary.undo()
        self.assertEqual(diary.stays(), [("a", 1, 2)])

    def test_stays_told_of_none(self):
        diary = diary_with([])
        diary.stays().append("x")
        self.assertEqual(diary.stays(), [])
        diary.put("a", 1, 1)
        diary.undo()
        diary.stays().append("x")
        self.assertEqual(diary.stays(), [])

    def test_spreads_told(self):
        diary = diary_with([])
        place, told = diary.put("a", 5, 6)
        wanted = changes_of([], [("a", 5, 6)])
        told[0].clear()
        told.append("x")
        again = diary.undo()
        self.assertEqual(again, wanted)
        again[1].append("x")
        self.assertEqual(diary.put("a", 5, 6), (0, wanted))
        taken = diary.take(0)
        self.assertEqual(taken, wanted)
        taken.clear()
        self.assertEqual(diary.undo(), wanted)

    def test_a_book_with_lists_that_change_afterwards(self):
        papers = [(0, 5, 5)]
        lands = [("a", 1)]
        book = book_of([("row", lands, 3, 1)], papers)
        diary = Diary(book)
        papers.clear()
        lands.clear()
        book.papers().clear()
        book.rules().clear()
        self.assertEqual(diary.put("a", 5, 6), (0, [[(6, 6)]]))


class PlainDiary:
    """A diary of single days."""

    def __init__(self):
        self.stays = []
        self.earlier = []

    def wrong(self, others, stay):
        days = set(range(stay[1], stay[2] + 1))
        taken = {day for land, first, last in others for day in range(first, last + 1)}
        return not days or min(days) < 0 or days & taken or len(others) >= 60

    def do(self, stays):
        self.earlier.append(self.stays)
        self.stays = stays

    def put(self, others, stay):
        place = sum(other[1] <= stay[1] for other in others)
        if self.wrong(others, stay):
            return ("refused", place)
        self.do(sorted(others + [stay], key=lambda one: one[1]))
        return ("done", place)


class Drawn(unittest.TestCase):
    def step(self, draw, diary, plain):
        """One deed on both; what the diary tells is ("done", place) or ("refused", number)."""
        number = draw.whole(-1, len(plain.stays) + 1) if draw.whole(0, 5) == 0 else draw.whole(0, len(plain.stays))
        there = 0 <= number < len(plain.stays)
        others = [stay for place, stay in enumerate(plain.stays) if place != number]
        first = draw.whole(-1, 40)
        last = first + draw.chance.choice([0, 1, 2, 3, 6, -1])
        deed = draw.chance.choice(["put", "put", "put", "move", "move", "take", "undo"])
        if deed == "put":
            stay = (draw.chance.choice(["a", "b", "c"]), first, last)
            return (lambda: diary.put(*stay)), plain.put(plain.stays, stay)
        if deed == "undo":
            if not plain.earlier:
                return diary.undo, ("none", None)
            plain.stays = plain.earlier.pop()
            return diary.undo, ("done", None)
        if not there:
            wanted = ("refused", number)
        elif deed == "move":
            wanted = plain.put(others, (plain.stays[number][0], first, last))
        else:
            plain.do(others)
            wanted = ("done", None)
        return (lambda: diary.take(number) if deed == "take" else diary.move(number, first, last)), wanted

    def test_many_deeds(self):
        met = {}
        for seed in range(60):
            draw = Draw(30000 + seed)
            rules = draw.rules(draw.whole(0, 3), (0, 5), (1, 9))
            papers = draw.papers(draw.whole(0, 3), len(rules), 40, 5)
            diary = Diary(book_of(rules, papers))
            plain = PlainDiary()
            for turn in range(40):
                old = plain.stays
                deed, wanted = self.step(draw, diary, plain)
                met[wanted[0]] = met.get(wanted[0], 0) + 1
                if wanted[0] == "refused":
                    with self.assertRaises(NoStay) as taken:
                        deed()
                    self.assertEqual(taken.exception.number, wanted[1])
                elif wanted[0] == "none":
                    self.assertRaises(NoDeed, deed)
                else:
                    told = deed()
                    if isinstance(told, tuple):
                        self.assertEqual(told[0], wanted[1])
                        told = told[1]
                    self.assertEqual(told, changes_of(old, plain.stays, rules, papers))
                self.assertEqual(diary.stays(), plain.stays)
            while plain.earlier:
                old = plain.stays
                plain.stays = plain.earlier.pop()
                self.assertEqual(diary.undo(), changes_of(old, plain.stays, rules, papers))
                self.assertEqual(diary.stays(), plain.stays)
            self.assertRaises(NoDeed, diary.undo)
        self.assertGreater(min(met.values()), 20)
        self.assertEqual(len(met), 3)

    def test_great_numbers(self):
        rules = [("within", [("a", 1), ("b", 3)], 9, 10 ** 7), ("since", [("a", 1)], 9, 10 ** 6)]
        book = book_of(rules, [(0, 50, 10 ** 5)])
        diary = Diary(book)
        for place in range(9):
            old = diary.stays()
            told = diary.put("ab"[place % 2], 10 ** 7 * (9 - place), 10 ** 7 * (9 - place) + 10 ** 6)
            self.assertEqual(told[0], 0)
            self.assertEqual(told[1], [changed_days(book, number, old, diary.stays()) for number in range(2)])
        old = diary.stays()
        told = diary.move(4, 10 ** 9 - 10 ** 6, 10 ** 9)
        self.assertEqual(diary.stays()[8], ("a", 10 ** 9 - 10 ** 6, 10 ** 9))
        self.assertEqual(told, [changed_days(book, number, old, diary.stays()) for number in range(2)])
        self.assertEqual(diary.undo(), told)
        self.assertEqual(diary.stays(), old)


if __name__ == "__main__":
    unittest.main()
