import unittest

from daysgate.diary import changed_days
from daysgate.errors import DayError, NoStay
from daysgate.limits import first_back, last_day
from daysgate.meaning import count_by_days, fault_by_days, weight_on
from daysgate.plans import plan_of, stays_by
from daysgate.stays import land_on, stays_of
from daysgate.sums import count_of, fault_of, pieces_of
from tests.plain import TOP, book_of

BOOK = book_of([("within", [("a", 1)], 5, 9)])

# Each function to which stays are handed in.
TAKERS = [
    stays_of,
    lambda stays: land_on(stays, 3),
    lambda stays: weight_on(BOOK, 0, stays, 3),
    lambda stays: count_by_days(BOOK, 0, stays, 3),
    lambda stays: fault_by_days(BOOK, stays),
    lambda stays: pieces_of(BOOK, 0, stays),
    lambda stays: count_of(BOOK, 0, stays, 3),
    lambda stays: fault_of(BOOK, stays),
    lambda stays: last_day(BOOK, stays, "a", 900),
    lambda stays: first_back(BOOK, stays, "a", 900),
    lambda stays: plan_of(BOOK, stays, ["a"], 900, 2),
    lambda stays: stays_by(stays, [(900, "a", [])]),
    lambda stays: changed_days(BOOK, 0, stays, []),
    lambda stays: changed_days(BOOK, 0, [], stays),
]

NO_NAMES = ["", "abcdefghi", "A", "aB", "a1", "1", "a b", " a", "a\n", "\u00e9", "\uff41", None, True, 1, ["a"], ("a",)]
NO_DAYS = [True, False, None, "1", "", [1], (1,), -1, TOP + 1, 10 ** 30]


def no_stays(day):
    """Things that are no stays, but would be one on that day if they were mended."""
    found = [None, True, False, 0, day, "", "a 1 1", [], (), ["a", day, day], [("a", day, day)], (("a", day, day),),
             ("a",), ("a", day), (day, day), ("a", day, day, day), (None, "a", day, day), (day, day, "a"),
             (day, "a", day), ("a", day + 1, day), ("a", day, day - 1), ("a", -2, -1)]
    found += [(name, day, day) for name in NO_NAMES]
    found += [("a", wrong, day) for wrong in NO_DAYS]
    found += [("a", day, wrong) for wrong in NO_DAYS]
    found += [("a", TOP + 1, TOP + 1), ("a", True, True), ("a", None, None), ("a", "1", "1")]
    return found


def some_stays(many, begin=10):
    return [("abcdefgh"[place % 8], begin + 10 * place, begin + 10 * place + place % 9) for place in range(many)]


class Refusing(unittest.TestCase):
    def number_of(self, taker, stays):
        with self.assertRaises(NoStay) as taken:
            taker(stays)
        self.assertIs(type(taken.exception), NoStay)
        self.assertIsInstance(taken.exception, DayError)
        self.assertIsInstance(taken.exception, ValueError)
        return taken.exception.number


class Right(unittest.TestCase):
    def test_none_to_sixty(self):
        for many in range(61):
            stays = some_stays(many)
            self.assertEqual(stays_of(stays), stays)
            self.assertEqual(stays_of(stays), some_stays(many))

    def test_names(self):
        for name in ("a", "z", "abcdefgh", "most"):
            self.assertEqual(stays_of([(name, 1, 2)]), [(name, 1, 2)])

    def test_days_at_the_bounds(self):
        for stays in ([("a", 0, 0)], [("a", 0, TOP)], [("a", TOP, TOP)], [("a", 0, 0), ("a", 1, TOP)],
                      [("a", 0, 0), ("b", TOP, TOP)], [("a", TOP - 1, TOP - 1), ("a", TOP, TOP)]):
            self.assertEqual(stays_of(stays), stays)

    def test_stays_may_touch(self):
        stays = [("a", 0, 4), ("a", 5, 5), ("b", 6, 9), ("a", 10, 10)]
        self.assertEqual(stays_of(stays), stays)
        sixty = [("a", day, day) for day in range(60)]
        self.assertEqual(stays_of(sixty), sixty)


class Order(Refusing):
    def test_begins_on_the_last_day_or_earlier(self):
        for begin in range(11):
            with self.subTest(begin=begin):
                self.assertEqual(self.number_of(stays_of, [("a", 5, 10), ("b", begin, 20)]), 1)
                self.assertEqual(self.number_of(stays_of, [("a", 5, 10), ("a", begin, max(begin, 4))]), 1)
        self.assertEqual(len(stays_of([("a", 5, 10), ("b", 11, 20)])), 2)

    def test_at_each_place(self):
        for place in range(1, 60):
            for earlier in range(1, 4):
                stays = [("a", 5 * number, 5 * number + 4) for number in range(60)]
                stays[place] = ("a", 5 * place - earlier, 5 * place + 4)
                self.assertEqual(self.number_of(stays_of, stays), place)

    def test_the_same_stay_twice(self):
        self.assertEqual(self.number_of(stays_of, [("a", 5, 5), ("a", 5, 5)]), 1)

    def test_the_later_one_is_told_even_where_the_earlier_one_is_odd(self):
        self.assertEqual(self.number_of(stays_of, [("a", 0, 0), ("a", 50, 90), ("a", 10, 11), ("a", 91, 92)]), 2)

    def test_behind_the_last_day_of_all(self):
        self.assertEqual(self.number_of(stays_of, [("a", 5, TOP), ("a", TOP, TOP)]), 1)
        self.assertEqual(self.number_of(stays_of, [("a", TOP, TOP), ("a", TOP + 1, TOP + 1)]), 1)


class Wrong(Refusing):
    def test_each_kind_at_each_place(self):
        for many in (1, 2, 7, 60):
            for place in range(many):
                right = some_stays(many)
                for thing in no_stays(right[place][1]):
                    stays = list(right)
                    stays[place] = thing
                    with self.subTest(many=many, place=place, thing=thing):
                        self.assertEqual(self.number_of(stays_of, stays), place)

    def test_the_first_of_several_is_told(self):
        for first in range(6):
            stays = some_stays(6)
            for place in range(first, 6):
                stays[place] = no_stays(stays[place][1])[place]
            self.assertEqual(self.number_of(stays_of, stays), first)
        self.assertEqual(self.number_of(stays_of, [("a", 5, 9), ("a", 9, 10), None]), 1)
        self.assertEqual(self.number_of(stays_of, [("a", 5, 9), None, ("a", 9, 10)]), 1)

    def test_too_many(self):
        for many in (61, 62, 99):
            self.assertIsNone(self.number_of(stays_of, some_stays(many)))

    def test_a_wrong_thing_is_told_ahead_of_too_many(self):
        for place in (0, 30, 59, 60, 61, 79):
            stays = some_stays(80)
            stays[place] = None
            self.assertEqual(self.number_of(stays_of, stays), place)
        self.assertEqual(self.number_of(stays_of, some_stays(60) + [("a", 0, 0)]), 60)

    def test_no_list(self):
        for thing in (None, True, False, 0, 5, "", "a 1 2", (), (("a", 1, 2),), ("a", 1, 2)):
            with self.subTest(thing=thing):
                self.assertIsNone(self.number_of(stays_of, thing))

    def test_wherever_stays_are_handed_in(self):
        for taker in TAKERS:
            self.assertEqual(self.number_of(taker, [("a", 1, 2), ("a", 2, 3)]), 1)
            self.assertEqual(self.number_of(taker, [["a", 1, 2]]), 0)
            self.assertEqual(self.number_of(taker, some_stays(80) + [("a", 1, True)]), 80)
            self.assertIsNone(self.number_of(taker, some_stays(61)))
            self.assertIsNone(self.number_of(taker, None))
            self.assertIsNone(self.number_of(taker, (("a", 1, 2),)))
            taker([("a", 1, 2)])

    def test_wrong_stays_are_refused_ahead_of_their_fault_and_of_a_wrong_day(self):
        stays = [("a", 0, 20), ("a", 5, 5)]
        for asked in (last_day, first_back):
            self.assertEqual(self.number_of(lambda some: asked(BOOK, some, "A", -1), stays), 1)
        self.assertEqual(self.number_of(lambda some: plan_of(BOOK, some, [], -1, 3), stays), 1)


class HandedIn(unittest.TestCase):
    def test_the_list_handed_in_stays(self):
        for taker in TAKERS:
            stays = [("a", 1, 2), ("b", 3, 4)]
            taker(stays)
            self.assertEqual(stays, [("a", 1, 2), ("b", 3, 4)])

    def test_a_refused_list_stays(self):
        for wrong in ([("a", 5, 6), ("a", 1, 2), ["b"]], some_stays(61)):
            stays = list(wrong)
            with self.assertRaises(NoStay):
                stays_of(stays)
            self.assertEqual(stays, wrong)

    def test_what_is_told_is_another_list(self):
        stays = [("a", 1, 2), ("b", 3, 4)]
        told = stays_of(stays)
        stays[0] = None
        stays.append(None)
        self.assertEqual(told, [("a", 1, 2), ("b", 3, 4)])
        again = stays_of(told)
        told.clear()
        self.assertEqual(again, [("a", 1, 2), ("b", 3, 4)])
        empty = []
        self.assertIsNot(stays_of(empty), empty)


class Lands(unittest.TestCase):
    def test_first_and_last_day_ahead_behind_and_between(self):
        stays = [("a", 3, 5), ("b", 6, 6), ("c", 9, 10), ("a", 12, 12)]
        wanted = {3: "a", 4: "a", 5: "a", 6: "b", 9: "c", 10: "c", 12: "a"}
        for day in range(-3, 20):
            self.assertEqual(land_on(stays, day), wanted.get(day), day)

    def test_no_stays(self):
        for day in (-1, 0, 5, TOP):
            self.assertIsNone(land_on([], day))

    def test_great_days(self):
        stays = [("a", 0, 0), ("b", 10 ** 6, 10 ** 8), ("c", TOP, TOP)]
        for day, land in ((-1, None), (0, "a"), (1, None), (10 ** 6 - 1, None), (10 ** 6, "b"), (10 ** 7, "b"),
                          (10 ** 8, "b"), (10 ** 8 + 1, None), (TOP - 1, None), (TOP, "c"), (TOP + 1, None)):
            self.assertEqual(land_on(stays, day), land, day)

    def test_each_of_many_stays(self):
        for many in (40, 60):
            stays = some_stays(many)
            for land, first, last in stays:
                self.assertIsNone(land_on(stays, first - 1))
                self.assertEqual(land_on(stays, first), land)
                self.assertEqual(land_on(stays, last), land)
                self.assertIsNone(land_on(stays, last + 1))


if __name__ == "__main__":
    unittest.main()
