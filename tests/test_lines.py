import itertools
import unittest

from daysgate.errors import NoText
from daysgate.rules import InRow, Since, Within, read_rule

TOP = 10 ** 9
SIX = [("aaaaaaaa", 9), ("bbbbbbbb", 9), ("cccccccc", 9), ("dddddddd", 9), ("eeeeeeee", 9), ("ffffffff", 9)]

LINES = [
    ("within 180 most 90: a 1, b 2", Within, [("a", 1), ("b", 2)], 90, 180),
    ("within 1 most 0: a 9", Within, [("a", 9)], 0, 1),
    ("within 1000000000 most 1000000000: b 2, a 1", Within, [("b", 2), ("a", 1)], TOP, TOP),
    ("since 30 most 100: abcdefgh 3", Since, [("abcdefgh", 3)], 100, 30),
    ("since 1 most 7: a 1", Since, [("a", 1)], 7, 1),
    ("since 1000000000 most 10: a 1", Since, [("a", 1)], 10, TOP),
    ("row most 0: a 1", InRow, [("a", 1)], 0, 1),
    ("row most 14: z 5, a 4, m 3, b 2", InRow, [("z", 5), ("a", 4), ("m", 3), ("b", 2)], 14, 1),
    ("within 5 most 6: most 1, row 2, since 3, within 4", Within,
     [("most", 1), ("row", 2), ("since", 3), ("within", 4)], 6, 5),
    ("since 5 most 6: most 1, row 2, since 3, within 4", Since,
     [("most", 1), ("row", 2), ("since", 3), ("within", 4)], 6, 5),
    ("row most 6: row 1, most 2", InRow, [("row", 1), ("most", 2)], 6, 1),
    ("since 9 most 9: aaaaaaaa 9, bbbbbbbb 9, cccccccc 9, dddddddd 9, eeeeeeee 9, ffffffff 9", Since, SIX, 9, 9),
]

NO_LINES = [
    "", " ", "\n", ":", ": ", "within", "within 180", "row", "row most", "row most 5", "row most 5:", "row most 5: ",
    "row most 5: a", "row most 5: a ", "row most 5: 1", "row most 5: a 1,", "row most 5: a 1, ", "row most 5: a 1, b",
    "row most 5 a 1", "row most 5:a 1", "row most 5 : a 1", "row most: a 1", "row 5: a 1", "most 5: a 1", ": a 1",
    "row most 5: : a 1", "row most 5: a 1: b 1", "row most 5: a: 1", "row most 5, a 1", "row, most 5: a 1",
    # the first words
    "Row most 5: a 1", "row Most 5: a 1", "rows most 5: a 1", "row least 5: a 1", "inrow most 5: a 1",
    "row 1 most 5: a 1", "within most 5: a 1", "since most 5: a 1", "within 5 5: a 1", "within 5 most: a 1",
    "within 5 least 5: a 1", "since 5 least 5: a 1", "within 5 most 5 5: a 1", "within 5 5 most 5: a 1",
    "other 5 most 5: a 1", "5 within most 5: a 1", "most 5 within 5: a 1", "rule row most 5: a 1", "row row most 5: a 1",
    # blanks
    " row most 5: a 1", "row most 5: a 1 ", "row  most 5: a 1", "row most  5: a 1", "row most 5:  a 1",
    "row most 5: a  1", "row most 5: a 1,  b 1", "row most 5: a 1 , b 1", "row most 5: a1", "rowmost 5: a 1",
    "row most5: a 1", "row most 5 : a 1", "row\tmost 5: a 1", "row most 5: a\t1", "row most 5:\ta 1",
    "row most 5: a\u00a01", "within 5 most 5 : a 1", " within 5 most 5: a 1", "within  5 most 5: a 1",
    # a row's end
    "row most 5: a 1\n", "\nrow most 5: a 1", "row most 5:\na 1", "row most 5: a 1\r", "row most 5: a 1,\nb 1",
    "row most 5\n: a 1", "row\nmost 5: a 1",
    # commas
    "row most 5: a 1 b 1", "row most 5: a 1,b 1", "row most 5: a 1; b 1", "row most 5: , a 1", "row most 5: a 1,, b 1",
    "row most 5: a 1, , b 1", "row most 5: a, 1", "row most 5: a 1, b 1,", "row most 5: a 1.",
    # numbers
    "row most 05: a 1", "row most 00: a 1", "row most +5: a 1", "row most -5: a 1", "row most -0: a 1",
    "row most 5.0: a 1", "row most 5.: a 1", "row most 1_0: a 1", "row most 1,0: a 1", "row most 0x5: a 1",
    "row most 1e3: a 1", "row most five: a 1", "row most True: a 1", "row most None: a 1", "row most 1000000001: a 1",
    "row most 01000000000: a 1", "row most 10000000000: a 1", "row most " + "9" * 80 + ": a 1",
    "within 0 most 5: a 1", "within 05 most 5: a 1", "within +5 most 5: a 1", "within -5 most 5: a 1",
    "within 1000000001 most 5: a 1", "within 5 most 05: a 1", "within 5 most 1000000001: a 1", "within 5 most -1: a 1",
    "since 0 most 5: a 1", "since 00 most 5: a 1", "since +5 most 5: a 1", "since -5 most 5: a 1",
    "since 1000000001 most 5: a 1", "since 5 most 05: a 1", "since 5 most 1000000001: a 1", "since 5 most -1: a 1",
    "row most 5: a 0", "row most 5: a 10", "row most 5: a 01", "row most 5: a +1", "row most 5: a -1",
    "row most 5: a 1.0", "row most 5: a 1 1", "row most 5: a 1, b 0", "row most 5: a 1, b 10", "row most 5: a 1, b 01",
    # figures that are not 0 to 9
    "row most \u0665: a 1", "row most \uff15: a 1", "row most \u00b2: a 1", "row most 5: a \u00b9",
    "row most 5: a \uff11", "row most 5: a \u0661", "within \u0665 most 5: a 1", "since \u0665 most 5: a 1",
    "row most \u2160: a 1", "row most \u4e94: a 1", "row most 5\u0665: a 1",
    # names
    "row most 5: A 1", "row most 5: abcdefghi 1", "row most 5: a1 1", "row most 5: \u00e9 1", "row most 5: 1 1",
    "row most 5: a_b 1", "row most 5: a-b 1", "row most 5:  1", "row most 5: a 1,  1", "row most 5: 1 a",
    # a land twice, and too many lands
    "row most 5: a 1, a 1", "row most 5: a 1, a 2", "row most 5: a 1, b 1, a 2", "within 5 most 5: a 1, a 1",
    "since 5 most 5: a 1, a 1", "row most 5: a 1, b 1, c 1, d 1, e 1, f 1, g 1",
]


def maker_of(kind, lands, most, days):
    if kind is InRow:
        return InRow(lands, most)
    return kind(lands, most, days)


class Written(unittest.TestCase):
    def test_the_line_of_each_kind(self):
        for line, kind, lands, most, days in LINES:
            with self.subTest(line=line):
                self.assertEqual(maker_of(kind, list(lands), most, days).line(), line)

    def test_a_leave_of_one_is_no_row(self):
        self.assertEqual(Since([("a", 1)], 4, 1).line(), "since 1 most 4: a 1")
        self.assertEqual(InRow([("a", 1)], 4).line(), "row most 4: a 1")


class Read(unittest.TestCase):
    def test_a_line_read_tells_its_rule(self):
        names = ["a", "b", "c", "most", "row"]
        for line, kind, lands, most, days in LINES:
            with self.subTest(line=line):
                rule = read_rule(line)
                self.assertEqual(type(rule), kind)
                self.assertEqual(rule.line(), line)
                for name in names + [name for name, times in lands]:
                    self.assertEqual(rule.weight(name), dict(lands).get(name, 0))
                self.assertEqual(rule.weight(None), 0)

    def test_a_leave_of_one_is_read_as_since(self):
        self.assertEqual(type(read_rule("since 1 most 4: a 1")), Since)
        self.assertEqual(type(read_rule("row most 4: a 1")), InRow)

    def test_every_number_at_its_bounds(self):
        for days, most, times in itertools.product((1, 9, 10, TOP - 1, TOP), (0, 1, 10, TOP - 1, TOP), range(1, 10)):
            lands = [("a", times), ("b", 10 - times)]
            for rule in (Within(lands, most, days), Since(lands, most, days), InRow(lands, most)):
                again = read_rule(rule.line())
                self.assertEqual(type(again), type(rule))
                self.assertEqual(again.line(), rule.line())

    def test_texts_of_most_signs(self):
        line = "within 1000000000 most 100000000: aaaaaaaa 9, bbbbbbbb 9, cccccccc 9, dddddddd 9, eeeeeeee 9, ffffffff 9"
        self.assertEqual(len(line), 104)
        self.assertEqual(read_rule(line).line(), line)
        with self.assertRaises(NoText):
            read_rule("a" * 104)
        with self.assertRaises(NoText):
            read_rule("1" * 104)


class Refused(unittest.TestCase):
    def refused(self, text):
        with self.subTest(text=text):
            with self.assertRaises(NoText):
                read_rule(text)

    def test_what_is_no_line(self):
        for text in NO_LINES:
            self.refused(text)

    def test_what_is_no_text(self):
        for thing in (None, True, False, 0, 5, [], (), ["row most 5: a 1"], ("row most 5: a 1",)):
            self.refused(thing)

    def test_each_sign_left_out_doubled_or_changed(self):
        """Whatever is read is the line of what is read, sign by sign."""
        read = 0
        for line in ("within 10 most 9: a 1, row 2", "since 1 most 20: most 1, b 9", "row most 10: ab 1, b 2"):
            texts = []
            for place in range(len(line) + 1):
                texts.append(line[:place] + line[place + 1:])
                for sign in " ,:0123456789+-.abz\nA\u00e9\u0661_":
                    texts.append(line[:place] + sign + line[place:])
                    texts.append(line[:place] + sign + line[place + 1:])
            for text in texts:
                try:
                    rule = read_rule(text)
                except NoText:
                    continue
                self.assertEqual(rule.line(), text)
                read += 1
        self.assertGreater(read, 100)


if __name__ == "__main__":
    unittest.main()
