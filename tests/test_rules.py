import unittest

from daysgate.errors import NoRule
from daysgate.rules import InRow, Rule, Since, Within

TOP = 10 ** 9
LANDS = [("a", 1), ("b", 9)]

# Each way in which lands and most come into a rule.
MAKERS = [
    Rule,
    lambda lands, most: Within(lands, most, 5),
    lambda lands, most: Since(lands, most, 5),
    InRow,
]

NO_NUMBERS = [True, False, None, "1", "", [1], (1,), [], ()]

NO_NAMES = ["", "abcdefghi", "A", "aB", "a1", "1", "a b", " a", "a ", "a\n", "a-b", "a_b", "\u00e9", "\u00df",
            "\u03b1", "\uff41", "a\u0301", "\u00aa", "`", "{", None, True, 1, ["a"], ("a",), []]

NAMES = ["a", "z", "az", "most", "row", "since", "within", "abcdefgh", "zzzzzzzz"]


class Bounds(unittest.TestCase):
    def refused(self, maker, *things):
        with self.subTest(maker=maker, things=things):
            with self.assertRaises(NoRule):
                maker(*things)

    def test_most(self):
        for maker in MAKERS:
            for most in (0, 1, TOP - 1, TOP):
                self.assertIsInstance(maker(list(LANDS), most), Rule)
            for most in [-1, TOP + 1, -TOP, 10 ** 30] + NO_NUMBERS:
                self.refused(maker, list(LANDS), most)

    def test_span_and_leave(self):
        for kind in (Within, Since):
            for days in (1, 2, TOP - 1, TOP):
                self.assertIsInstance(kind(list(LANDS), 5, days), kind)
            for days in [0, -1, TOP + 1, 10 ** 30] + NO_NUMBERS:
                self.refused(kind, list(LANDS), 5, days)

    def test_weights(self):
        for maker in MAKERS:
            for times in range(1, 10):
                self.assertEqual(maker([("a", times)], 5).weight("a"), times)
            for times in [0, 10, -1, 10 ** 30] + NO_NUMBERS:
                self.refused(maker, [("a", times)], 5)
                self.refused(maker, [("b", 1), ("a", times)], 5)
                self.refused(maker, [("a", times), ("b", 1)], 5)

    def test_names(self):
        for maker in MAKERS:
            for name in NAMES:
                self.assertEqual(maker([(name, 3)], 5).weight(name), 3)
            for name in NO_NAMES:
                self.refused(maker, [(name, 1)], 5)
                self.refused(maker, [("b", 1), (name, 1)], 5)

    def test_each_letter_is_one(self):
        for letter in "abcdefghijklmnopqrstuvwxyz":
            self.assertEqual(Rule([(letter, 2)], 0).weight(letter), 2)

    def test_how_many_lands(self):
        lands = [(name, 1) for name in "abcdefg"]
        for maker in MAKERS:
            for many in range(1, 7):
                rule = maker(lands[:many], 5)
                self.assertEqual([rule.weight(name) for name in "abcdefg"], [1] * many + [0] * (7 - many))
            self.refused(maker, [], 5)
            self.refused(maker, lands, 5)

    def test_a_name_twice(self):
        for maker in MAKERS:
            self.refused(maker, [("a", 1), ("a", 1)], 5)
            self.refused(maker, [("a", 1), ("a", 2)], 5)
            self.refused(maker, [("a", 1), ("b", 2), ("a", 3)], 5)
            self.refused(maker, [(name, 1) for name in "abcdea"], 5)

    def test_what_is_no_list_of_lands(self):
        no_lands = [None, True, 1, "a", "ab", ("a", 1), (("a", 1),), (("a", 1), ("b", 2)), "a 1", [["a", 1]],
                    [("a",)], [("a", 1, 1)], [()], ["a1"], ["a"], [None], [1], [True], [("a", 1), None],
                    [("a", 1), ["b", 1]], [[("a", 1)]], [(("a", 1),)], [("a", (1,))], [(1, "a")]]
        for maker in MAKERS:
            for lands in no_lands:
                self.refused(maker, lands, 5)


class Weights(unittest.TestCase):
    def test_weight_of_each_land_of_another_and_of_none(self):
        for maker in MAKERS:
            rule = maker([("b", 2), ("abcdefgh", 9), ("a", 1)], 5)
            self.assertEqual(rule.weight("b"), 2)
            self.assertEqual(rule.weight("abcdefgh"), 9)
            self.assertEqual(rule.weight("a"), 1)
            for other in ("c", "ab", "ba", "abcdefg"):
                self.assertEqual(rule.weight(other), 0)
            self.assertEqual(rule.weight(None), 0)


class Kinds(unittest.TestCase):
    def test_which_stands_under_which(self):
        self.assertTrue(issubclass(Within, Rule))
        self.assertTrue(issubclass(Since, Rule))
        self.assertTrue(issubclass(InRow, Since))
        self.assertFalse(issubclass(Within, Since))
        self.assertFalse(issubclass(Since, Within))
        self.assertFalse(issubclass(Since, InRow))
        self.assertFalse(issubclass(Rule, Within))
        self.assertFalse(issubclass(Rule, Since))
        self.assertEqual(type(Since([("a", 1)], 0, 1)), Since)

    def test_in_a_row_is_a_since_whose_leave_is_one(self):
        self.assertEqual(InRow([("a", 1)], 5).leave, 1)
        self.assertEqual(Since([("a", 1)], 5, 7).leave, 7)
        self.assertEqual(Within([("a", 1)], 5, 7).span, 7)

    def test_arguments_by_name(self):
        Rule(lands=[("a", 1)], most=1)
        Within(lands=[("a", 1)], most=1, span=2)
        Since(lands=[("a", 1)], most=1, leave=2)
        InRow(lands=[("a", 1)], most=1)


class HandedIn(unittest.TestCase):
    def test_a_list_changed_afterwards_changes_nothing(self):
        for maker in MAKERS[1:]:
            lands = [("a", 1), ("b", 2)]
            rule = maker(lands, 5)
            self.assertEqual(lands, [("a", 1), ("b", 2)])
            line = rule.line()
            lands[0] = ("a", 7)
            lands.append(("c", 3))
            self.assertEqual([rule.weight("a"), rule.weight("b"), rule.weight("c")], [1, 2, 0])
            self.assertEqual(rule.line(), line)
            lands.clear()
            self.assertEqual([rule.weight("a"), rule.weight("b"), rule.weight("c")], [1, 2, 0])
            self.assertEqual(rule.line(), line)

    def test_the_base_class_copies_too(self):
        lands = [("a", 1)]
        rule = Rule(lands, 5)
        lands[0] = ("b", 7)
        self.assertEqual([rule.weight("a"), rule.weight("b")], [1, 0])

    def test_a_refused_list_stays_as_it_was(self):
        lands = [("b", 1), ("a", 1), ("b", 2)]
        with self.assertRaises(NoRule):
            Rule(lands, 5)
        self.assertEqual(lands, [("b", 1), ("a", 1), ("b", 2)])


if __name__ == "__main__":
    unittest.main()
