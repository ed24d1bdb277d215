import unittest

from daysgate.checks import are_days, are_names, is_between, is_name, is_whole, is_written_number

TOP = 10 ** 9


class Numbers(unittest.TestCase):
    def test_a_truth_is_no_whole_number(self):
        for thing in (0, 1, -1, 10 ** 30):
            self.assertIs(is_whole(thing), True)
        for thing in (True, False, None, "1", [1], (1,)):
            self.assertIs(is_whole(thing), False)

    def test_between_with_both_bounds(self):
        for thing, wanted in ((2, False), (3, True), (5, True), (6, False), (True, False), ("4", False)):
            self.assertIs(is_between(thing, 3, 5), wanted)

    def test_days(self):
        for first, last in ((0, 0), (0, TOP), (TOP, TOP), (3, 4)):
            self.assertIs(are_days(first, last), True)
        for first, last in ((-1, 0), (-2, -1), (4, 3), (TOP, TOP + 1), (TOP + 1, TOP + 1), (False, 1), (0, True)):
            self.assertIs(are_days(first, last), False)

    def test_written_numbers(self):
        for word in ("0", "1", "9", "10", "1234567890", "9999999999"):
            self.assertIs(is_written_number(word), True)
        for word in ("", "00", "01", "+1", "-1", " 1", "1 ", "1\n", "12345678901", "1_0", "\u0661", "\u00b2", "a"):
            self.assertIs(is_written_number(word), False)


class Names(unittest.TestCase):
    def test_names(self):
        for name in ("a", "z", "abcdefgh"):
            self.assertIs(is_name(name), True)
        for thing in ("", "abcdefghi", "A", "a1", "a b", "\u00e9", None, 1, ["a"], ("a",)):
            self.assertIs(is_name(thing), False)

    def test_lists_of_names(self):
        for things in (["a"], ["b", "a"], ["a", "b", "abcdefgh"]):
            self.assertIs(are_names(things, 3), True)
        for things in (["a", "b"], [], ["A"], [["a"]], ("a",), "a", None):
            self.assertIs(are_names(things, 1), False)
        for things in (["a", "a"], ["a", "b", "a"], ["a", None], list("abcd")):
            self.assertIs(are_names(things, 3), False)


if __name__ == "__main__":
    unittest.main()
