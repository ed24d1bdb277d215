import itertools
import random
import unittest

from daysgate.days import both, holds, less, size, spread

LEAST = -10 ** 12
GREATEST = 999 * 10 ** 9
LEAST_OF_SPREADS = -10 ** 11 - 60
GREATEST_OF_SPREADS = 10 ** 11 + 67


def days_of(stretches):
    days = set()
    for first, last in stretches:
        days.update(range(first, last + 1))
    return days


def spread_of_days(days):
    """The one spread of a set of days, day by day."""
    found = []
    for day in sorted(days):
        if found and found[-1][1] == day - 1:
            found[-1] = (found[-1][0], day)
        else:
            found.append((day, day))
    return found


def all_spreads(first, last):
    days = range(first, last + 1)
    for many in range(len(days) + 1):
        for some in itertools.combinations(days, many):
            yield set(some), spread_of_days(some)


class Spread(unittest.TestCase):
    def test_ordinary(self):
        cases = [
            ([], []),
            ([(3, 3)], [(3, 3)]),
            ([(3, 8)], [(3, 8)]),
            ([(3, 8), (3, 8)], [(3, 8)]),
            ([(3, 8), (5, 6)], [(3, 8)]),
            ([(5, 6), (3, 8)], [(3, 8)]),
            ([(3, 8), (8, 9)], [(3, 9)]),
            ([(8, 9), (3, 8)], [(3, 9)]),
            ([(3, 8), (3, 4)], [(3, 8)]),
            ([(3, 8), (7, 8)], [(3, 8)]),
            ([(20, 30), (1, 2), (10, 12)], [(1, 2), (10, 12), (20, 30)]),
            ([(1, 10), (2, 3), (5, 6), (11, 11), (13, 13)], [(1, 11), (13, 13)]),
            ([(-5, -3), (-2, 0), (2, 2)], [(-5, 0), (2, 2)]),
        ]
        for stretches, wanted in cases:
            with self.subTest(stretches=stretches):
                self.assertEqual(spread(stretches), wanted)

    def test_neighbours_become_one_and_a_day_between_keeps_two(self):
        for day in (-10, -1, 0, 1, 10 ** 11, LEAST + 5, GREATEST - 5):
            with self.subTest(day=day):
                self.assertEqual(spread([(day - 3, day), (day + 1, day + 4)]), [(day - 3, day + 4)])
                self.assertEqual(spread([(day - 3, day), (day + 2, day + 4)]), [(day - 3, day), (day + 2, day + 4)])

    def test_great_days(self):
        self.assertEqual(spread([(LEAST, GREATEST)]), [(LEAST, GREATEST)])
        self.assertEqual(spread([(0, GREATEST), (LEAST, -1)]), [(LEAST, GREATEST)])
        self.assertEqual(spread([(1, GREATEST), (LEAST, -1)]), [(LEAST, -1), (1, GREATEST)])
        self.assertEqual(spread([(GREATEST, GREATEST), (LEAST, LEAST)]), [(LEAST, LEAST), (GREATEST, GREATEST)])

    def test_all_short_lists_against_single_days(self):
        stretches = [(first, last) for first in range(-3, 4) for last in range(first, 4)]
        for many in range(4):
            for some in itertools.product(stretches, repeat=many):
                wanted = spread_of_days(days_of(some))
                self.assertEqual(spread(list(some)), wanted, some)

    def test_long_lists_against_single_days(self):
        chance = random.Random(5)
        for turn in range(200):
            some = []
            for place in range(chance.randrange(40)):
                first = chance.randrange(-200, 200)
                some.append((first, first + chance.randrange(9)))
            self.assertEqual(spread(some), spread_of_days(days_of(some)), some)

    def test_a_spread_is_its_own(self):
        for days, one in all_spreads(-3, 3):
            self.assertEqual(spread(one), one)


class TwoSpreads(unittest.TestCase):
    def test_ordinary(self):
        one = [(1, 10), (20, 30)]
        other = [(5, 5), (8, 22), (30, 40)]
        self.assertEqual(both(one, other), [(5, 5), (8, 10), (20, 22), (30, 30)])
        self.assertEqual(less(one, other), [(1, 4), (6, 7), (23, 29)])
        self.assertEqual(less(other, one), [(11, 19), (31, 40)])

    def test_empty(self):
        one = [(1, 10), (20, 30)]
        self.assertEqual(both(one, []), [])
        self.assertEqual(both([], one), [])
        self.assertEqual(both([], []), [])
        self.assertEqual(less(one, []), one)
        self.assertEqual(less([], one), [])
        self.assertEqual(less([], []), [])

    def test_all_pairs_against_single_days(self):
        spreads = list(all_spreads(-3, 3))
        for days, one in spreads:
            for days_there, other in spreads:
                self.assertEqual(both(one, other), spread_of_days(days & days_there), (one, other))
                self.assertEqual(less(one, other), spread_of_days(days - days_there), (one, other))

    def test_long_pairs_against_single_days(self):
        chance = random.Random(6)
        for turn in range(200):
            days = {chance.randrange(-90, 90) for place in range(chance.randrange(120))}
            days_there = {chance.randrange(-60, 120) for place in range(chance.randrange(120))}
            one = spread_of_days(days)
            other = spread_of_days(days_there)
            self.assertEqual(both(one, other), spread_of_days(days & days_there), (one, other))
            self.assertEqual(less(one, other), spread_of_days(days - days_there), (one, other))

    def test_great_days(self):
        whole = [(LEAST_OF_SPREADS, GREATEST_OF_SPREADS)]
        ends = [(LEAST_OF_SPREADS, LEAST_OF_SPREADS), (GREATEST_OF_SPREADS, GREATEST_OF_SPREADS)]
        inner = [(LEAST_OF_SPREADS + 1, GREATEST_OF_SPREADS - 1)]
        self.assertEqual(both(whole, ends), ends)
        self.assertEqual(both(ends, whole), ends)
        self.assertEqual(less(whole, ends), inner)
        self.assertEqual(less(whole, inner), ends)
        self.assertEqual(less(ends, whole), [])
        self.assertEqual(both(inner, ends), [])


class Sizes(unittest.TestCase):
    def test_size_and_holds_against_single_days(self):
        for days, one in all_spreads(-4, 4):
            self.assertEqual(size(one), len(days), one)
            for day in range(-6, 7):
                self.assertIs(holds(one, day), day in days, (one, day))

    def test_great_days(self):
        whole = [(LEAST_OF_SPREADS, -1), (1, GREATEST_OF_SPREADS)]
        self.assertEqual(size(whole), 2 * 10 ** 11 + 127)
        for day in (LEAST_OF_SPREADS, -1, 1, GREATEST_OF_SPREADS):
            self.assertIs(holds(whole, day), True)
        for day in (LEAST_OF_SPREADS - 1, 0, GREATEST_OF_SPREADS + 1):
            self.assertIs(holds(whole, day), False)


class HandedIn(unittest.TestCase):
    def test_what_is_handed_in_stays_as_it_was(self):
        stretches = [(20, 30), (1, 5), (6, 9), (1, 5)]
        spread(stretches)
        self.assertEqual(stretches, [(20, 30), (1, 5), (6, 9), (1, 5)])
        one = [(1, 9), (20, 30)]
        other = [(4, 22), (25, 25)]
        for asked in (both, less):
            asked(one, other)
            self.assertEqual(one, [(1, 9), (20, 30)])
            self.assertEqual(other, [(4, 22), (25, 25)])
        size(one)
        holds(one, 4)
        self.assertEqual(one, [(1, 9), (20, 30)])

    def test_what_is_told_is_a_new_list(self):
        one = [(1, 9), (20, 30)]
        for told in (spread(one), both(one, one), both(one, [(0, 99)]), less(one, []), less(one, [(50, 60)])):
            self.assertEqual(told, [(1, 9), (20, 30)])
            told.append((90, 90))
            self.assertEqual(one, [(1, 9), (20, 30)])
        nothing = []
        for told in (spread(nothing), both(nothing, one), both(one, nothing), less(nothing, one)):
            self.assertEqual(told, [])
            told.append((90, 90))
            self.assertEqual(nothing, [])
        self.assertEqual(spread([]), [])
        self.assertEqual(less([], one), [])


if __name__ == "__main__":
    unittest.main()
