"""The stays of a plan: its runs, behind the stays that were there."""

import unittest

from daysgate.plans import plan_of, stays_by
from tests.plain import Draw, TOP, book_of, fault_plainly


def plan_from(first, row, passed=()):
    """A plan with these lands, one sign a day, - for a day out."""
    return [(first + place, None if sign == "-" else sign, list(passed)) for place, sign in enumerate(row)]


class Runs(unittest.TestCase):
    def check(self, stays, first, row, wanted):
        for passed in ([], [("x", (1, 2, 3))], [None]):
            self.assertEqual(stays_by(stays, plan_from(first, row, passed)), stays + wanted)

    def test_none(self):
        for stays in ([], [("a", 0, 4)], [("a", 0, 4), ("b", 5, 9)]):
            self.check(stays, 10, "", [])
            self.check(stays, 10, "-", [])
            self.check(stays, 10, "-----", [])

    def test_one_run(self):
        self.check([], 10, "a", [("a", 10, 10)])
        self.check([], 10, "aaa", [("a", 10, 12)])
        self.check([], 0, "aaa", [("a", 0, 2)])
        self.check([], 10, "-aaa", [("a", 11, 13)])
        self.check([], 10, "aaa--", [("a", 10, 12)])

    def test_runs_that_touch(self):
        self.check([], 10, "aab", [("a", 10, 11), ("b", 12, 12)])
        self.check([], 10, "abab", [("a", 10, 10), ("b", 11, 11), ("a", 12, 12), ("b", 13, 13)])
        self.check([], 10, "aabbbc", [("a", 10, 11), ("b", 12, 14), ("c", 15, 15)])

    def test_days_out_amid(self):
        self.check([], 10, "aa-a", [("a", 10, 11), ("a", 13, 13)])
        self.check([], 10, "a--b-bb", [("a", 10, 10), ("b", 13, 13), ("b", 15, 16)])

    def test_a_run_that_touches_the_last_of_the_stays(self):
        stays = [("b", 0, 3), ("a", 5, 9)]
        self.check(stays, 10, "aa", [("a", 10, 11)])
        self.check(stays, 10, "b", [("b", 10, 10)])
        self.check(stays, 10, "-a", [("a", 11, 11)])
        self.check(stays, 90, "a", [("a", 90, 90)])
        self.check([("a", 10 * place, 10 * place + 9) for place in range(10)], 100, "a", [("a", 100, 100)])

    def test_forty_eight_days(self):
        self.check([], 5, "a" * 48, [("a", 5, 52)])
        self.check([], 5, "ab" * 24, [("ab"[place % 2], 5 + place, 5 + place) for place in range(48)])
        self.check([], 5, "a-" * 24, [("a", 5 + 2 * place, 5 + 2 * place) for place in range(24)])
        self.check([], 5, "-" * 48, [])

    def test_days_behind_the_greatest(self):
        self.check([("a", 0, TOP - 1)], TOP, "aab", [("a", TOP, TOP + 1), ("b", TOP + 2, TOP + 2)])

    def test_more_than_sixty_stays_in_the_end(self):
        stays = [("c", 2 * place, 2 * place) for place in range(60)]
        self.check(stays, 200, "a-b", [("a", 200, 200), ("b", 202, 202)])

    def test_whatever_stands_as_passed(self):
        for passed in (None, [], "", "a", 5, (), ("a", "b"), [[]]):
            plan = [(4, "a", passed), (5, "a", passed), (6, None, passed), (7, "b", passed)]
            self.assertEqual(stays_by([], plan), [("a", 4, 5), ("b", 7, 7)])


class OfPlans(unittest.TestCase):
    def test_each_day_is_in_the_planned_land(self):
        for number in range(200):
            draw = Draw(80000 + number)
            rules = draw.rules(draw.whole(0, 3), (0, 9), (1, 7))
            stays = draw.stays(draw.whole(0, 10), 4, 4, 2)
            while fault_plainly(rules, [], stays) is not None:
                stays.pop()
            first = (stays[-1][2] + 1 if stays else 0) + draw.whole(0, 2)
            plan = plan_of(book_of(rules), stays, ["a", "b"], first, draw.whole(0, 48))
            told = stays_by(stays, plan)
            self.assertEqual(told[:len(stays)], stays)
            runs = told[len(stays):]
            days = [(day, land) for land, begin, end in runs for day in range(begin, end + 1)]
            self.assertEqual(days, [(day, land) for day, land, passed in plan if land is not None])
            for one, other in zip(runs, runs[1:]):
                self.assertTrue(one[0] != other[0] or one[2] + 1 < other[1])
            # As runs or as single days, they are let alike.
            self.assertIsNone(fault_plainly(rules, [], told))

    def test_what_is_handed_in_stays(self):
        stays = [("a", 0, 1)]
        plan = plan_from(2, "aa-b", [("c", (1, 0, 0))])
        told = stays_by(stays, plan)
        self.assertEqual(stays, [("a", 0, 1)])
        self.assertEqual(plan, plan_from(2, "aa-b", [("c", (1, 0, 0))]))
        told.clear()
        self.assertEqual(stays_by(stays, plan), [("a", 0, 1), ("a", 2, 3), ("b", 5, 5)])
        told = stays_by(stays, [])
        self.assertIsNot(told, stays)
        told.append("x")
        self.assertEqual(stays, [("a", 0, 1)])


if __name__ == "__main__":
    unittest.main()
