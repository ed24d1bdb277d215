"""The desk: each row with its answer, sign by sign, and each of its refusals."""

import unittest

from daysgate.desk import Desk
from daysgate.errors import DayError, NoDeed, NoPaper, NoRow, NoRule, NoStay, NoText, NotLet, NoWish

OTHERS = [NoDeed, NoPaper, NoRow, NoRule, NoStay, NoText, NotLet, NoWish]

QUESTIONS = ["rules", "stays", "check"]


def desk_with(*rows):
    desk = Desk()
    for row in rows:
        desk.say(row)
    return desk


def state_of(desk):
    """All that the desk tells of itself, as far as questions change nothing."""
    found = [desk.say(row) for row in QUESTIONS]
    for row in ("count 0 5", "count 1 9", "last a 990", "back a 990", "plan 990 9 a b"):
        try:
            found.append(desk.say(row))
        except DayError as error:
            found.append(type(error))
    return found


class Desks(unittest.TestCase):
    def says(self, desk, *pairs):
        for row, answer in pairs:
            told = desk.say(row)
            self.assertEqual(told, answer, row)
            self.assertIs(type(told), str)

    def refusal(self, desk, kind, row):
        kept = state_of(desk)
        with self.subTest(row=row):
            with self.assertRaises(kind) as taken:
                desk.say(row)
            error = taken.exception
            self.assertIs(type(error), kind)
            self.assertIsInstance(error, DayError)
            self.assertIsInstance(error, ValueError)
            self.assertEqual([other for other in OTHERS if isinstance(error, other)], [kind])
            self.assertEqual(state_of(desk), kept)
            return error

    def no_stay(self, desk, row, number):
        self.assertEqual(self.refusal(desk, NoStay, row).number, number)

    def no_paper(self, desk, row, number):
        self.assertEqual(self.refusal(desk, NoPaper, row).number, number)

    def not_let(self, desk, row, fault):
        error = self.refusal(desk, NotLet, row)
        self.assertEqual((error.day, error.number, error.first), fault)


class Answers(Desks):
    def test_none_at_first(self):
        self.says(Desk(), ("rules", ""), ("stays", ""), ("check", "let"), ("last a 0", "ever"), ("back a 7", "7"),
                  ("plan 0 0 a", ""), ("plan 4 3 a b", "a a a"))

    def test_rules(self):
        self.says(
            Desk(),
            ("rule within 180 most 90: a 1, b 2", "0"), ("rules", "within 180 most 90: a 1, b 2"),
            ("rule row most 14: a 1", "1"), ("rules", "within 180 most 90: a 1, b 2 | row most 14: a 1"),
            ("rule since 30 most 5: abcdefgh 9", "2"), ("rule since 1 most 0: c 1", "3"), ("rule row most 14: a 1", "4"),
            ("rules", "within 180 most 90: a 1, b 2 | row most 14: a 1 | since 30 most 5: abcdefgh 9 | since 1 most 0: c 1"
                      " | row most 14: a 1"),
        )

    def test_eight_rules(self):
        desk = Desk()
        lines = [f"within {place + 1} most {place}: a 1" for place in range(8)]
        for place, line in enumerate(lines):
            self.says(desk, ("rule " + line, str(place)), ("rules", " | ".join(lines[:place + 1])))
        self.refusal(desk, NoRule, "rule row most 5: a 1")
        # What is no line is told as such, however many rules there are.
        self.refusal(desk, NoText, "rule row most 5: a")
        self.refusal(desk, NoText, "rule ")

    def test_the_greatest_line(self):
        line = "within 1000000000 most 100000000: aaaaaaaa 9, bbbbbbbb 9, cccccccc 9, dddddddd 9, eeeeeeee 9, f 9"
        self.says(Desk(), ("rule " + line, "0"), ("rules", line))

    def test_stays_and_deeds(self):
        self.says(
            Desk(),
            ("stay a 10 12", "0"), ("stays", "a 10 12"), ("stay b 0 4", "0"), ("stays", "b 0 4, a 10 12"),
            ("stay abcdefgh 20 20", "2"), ("stay c 5 5", "1"), ("stays", "b 0 4, c 5 5, a 10 12, abcdefgh 20 20"),
            ("take 1", "ok"), ("stays", "b 0 4, a 10 12, abcdefgh 20 20"),
            ("move 0 21 30", "ok"), ("stays", "a 10 12, abcdefgh 20 20, b 21 30"),
            ("move 2 21 30", "ok"), ("stays", "a 10 12, abcdefgh 20 20, b 21 30"),
            ("undo", "ok"), ("stays", "a 10 12, abcdefgh 20 20, b 21 30"),
            ("undo", "ok"), ("stays", "b 0 4, a 10 12, abcdefgh 20 20"),
            ("undo", "ok"), ("stays", "b 0 4, c 5 5, a 10 12, abcdefgh 20 20"),
            ("undo", "ok"), ("undo", "ok"), ("stays", "b 0 4, a 10 12"), ("undo", "ok"), ("undo", "ok"), ("stays", ""),
        )

    def test_stays_at_the_bounds(self):
        self.says(Desk(), ("stay a 0 0", "0"), ("stay z 1000000000 1000000000", "1"),
                  ("stays", "a 0 0, z 1000000000 1000000000"), ("move 1 1 1000000000", "ok"),
                  ("stays", "a 0 0, z 1 1000000000"))

    def test_papers(self):
        self.says(
            Desk(),
            ("rule row most 2: a 1", "0"), ("rule within 9 most 4: a 1", "1"), ("stay a 0 3", "0"), ("check", "2 0 0"),
            ("paper 0 2 2", "ok"), ("check", "let"), ("count 0 3", "1"), ("count 1 3", "4"),
            ("stay a 4 4", "1"), ("check", "4 1 -4"), ("paper 1 0 1000000000", "ok"), ("check", "let"), ("count 1 4", "0"),
            ("stay a 5 5", "2"), ("check", "5 0 3"), ("paper 0 0 0", "ok"), ("check", "5 0 3"),
        )

    def test_check_and_count(self):
        desk = desk_with("rule within 10 most 5: a 1, b 2", "rule since 3 most 4: b 1", "stay a 2 4", "stay b 6 6")
        self.says(desk, ("check", "let"), ("count 0 0", "0"), ("count 0 2", "1"), ("count 0 6", "5"), ("count 0 11", "5"),
                  ("count 0 12", "4"), ("count 0 16", "0"), ("count 0 9999999999", "0"), ("count 1 5", "0"),
                  ("count 1 6", "1"), ("count 1 8", "1"), ("count 1 9", "0"))
        self.says(desk, ("stay a 7 7", "2"), ("check", "7 0 -2"), ("count 0 7", "6"), ("undo", "ok"), ("check", "let"))
        self.says(desk, ("stay b 20 29", "2"), ("check", "22 0 13"), ("paper 0 20 29", "ok"), ("check", "24 1 20"))

    def test_last(self):
        desk = desk_with("rule within 10 most 5: a 1, b 2", "stay a 2 4")
        self.says(desk, ("last a 5", "6: 7 0 -2"), ("last b 5", "5: 6 0 -3"), ("last a 14", "18: 19 0 10"),
                  ("last c 5", "ever"), ("last a 1000000", "1000004: 1000005 0 999996"))
        self.says(desk, ("stay a 5 6", "1"), ("last a 7", "6: 7 0 -2"), ("last b 11", "10: 11 0 2"))
        self.says(desk_with("rule row most 0: a 1"), ("last a 0", "-1: 0 0 0"), ("last a 5", "4: 5 0 5"))
        self.says(desk_with("rule within 10 most 0: a 1"), ("last a 0", "-1: 0 0 -9"))
        self.says(desk_with("rule within 10 most 10: a 1"), ("last a 0", "ever"))

    def test_back(self):
        desk = desk_with("rule within 10 most 5: a 1, b 2", "stay a 2 6")
        self.says(desk, ("back a 7", "12"), ("back b 7", "13"), ("back c 7", "7"), ("back a 99", "99"),
                  ("paper 0 9 9", "ok"), ("back a 7", "9"), ("back a 10", "12"))
        self.says(desk_with("rule row most 0: a 1"), ("back a 0", "never"), ("back b 0", "0"))
        self.says(desk_with("rule row most 8: a 9"), ("back a 0", "never"))

    def test_plan(self):
        desk = desk_with("rule row most 2: a 1", "rule within 3 most 1: b 1", "stay a 0 0")
        self.says(desk, ("plan 1 6 a", "a - a a - a"), ("plan 1 6 a b", "a b a a b a"), ("plan 1 4 b a", "b a a b"),
                  ("plan 1 1 a", "a"), ("plan 1 0 a", ""), ("plan 1 0 a b c d e f", ""), ("plan 9 3 cc a", "cc cc cc"),
                  ("plan 1000000000 3 a", "a a -"))
        self.says(desk, ("plan 1 60 c", " ".join(["c"] * 60)), ("plan 1 59 a", " ".join((["a", "-", "a"] * 20)[:59])))
        self.says(desk_with("rule row most 0: a 1"), ("plan 0 1 a", "-"), ("plan 0 5 a", "- - - - -"))

    def test_lands_called_like_rows(self):
        names = ["rule", "paper", "stay", "take", "move", "undo", "rules", "stays", "check", "count", "last", "back", "plan"]
        for name in names:
            self.says(
                Desk(),
                (f"rule row most 1: {name} 1", "0"), ("rules", f"row most 1: {name} 1"), (f"stay {name} 4 4", "0"),
                ("stays", f"{name} 4 4"), ("check", "let"), (f"last {name} 6", "6: 7 0 6"), (f"back {name} 5", "6"),
                (f"plan 5 3 {name}", f"- {name} -"), (f"plan 5 2 a {name}", "a a"), ("take 0", "ok"), ("undo", "ok"),
            )

    def test_questions_change_nothing(self):
        desk = desk_with("rule row most 2: a 1", "stay a 0 0", "paper 0 9 9")
        for turn in range(2):
            self.says(desk, ("rules", "row most 2: a 1"), ("stays", "a 0 0"), ("check", "let"), ("count 0 0", "1"),
                      ("last a 1", "1: 2 0 0"), ("back a 1", "1"), ("plan 1 3 a", "a - a"))
        self.says(desk, ("undo", "ok"), ("stays", ""))
        self.refusal(desk, NoDeed, "undo")

    def test_two_desks_side_by_side(self):
        one = desk_with("rule row most 2: a 1", "stay a 0 3", "paper 0 9 9")
        other = desk_with("stay b 5 5")
        self.says(one, ("stays", "a 0 3"), ("check", "2 0 0"))
        self.says(other, ("rules", ""), ("stays", "b 5 5"), ("check", "let"))
        self.says(other, ("rule row most 0: b 1", "0"), ("undo", "ok"), ("stays", ""))
        self.says(one, ("rules", "row most 2: a 1"), ("stays", "a 0 3"), ("undo", "ok"))
        self.refusal(other, NoDeed, "undo")
        self.says(Desk(), ("rules", ""), ("stays", ""))


class RulesBehindStays(Desks):
    def test_stays_and_deeds_stay(self):
        desk = desk_with("stay a 0 3", "stay b 5 5", "move 1 7 7", "take 0")
        self.says(desk, ("rule row most 2: a 1", "0"), ("stays", "b 7 7"), ("check", "let"),
                  ("undo", "ok"), ("stays", "a 0 3, b 7 7"), ("check", "2 0 0"),
                  ("paper 0 2 2", "ok"), ("stays", "a 0 3, b 7 7"), ("check", "let"),
                  ("undo", "ok"), ("stays", "a 0 3, b 5 5"),
                  ("rule row most 0: b 1", "1"), ("check", "5 1 5"), ("stays", "a 0 3, b 5 5"),
                  ("undo", "ok"), ("stays", "a 0 3"), ("check", "let"), ("paper 1 0 0", "ok"),
                  ("undo", "ok"), ("stays", ""))
        self.refusal(desk, NoDeed, "undo")
        self.says(desk, ("rules", "row most 2: a 1 | row most 0: b 1"))

    def test_a_rule_and_a_paper_are_no_deeds(self):
        desk = desk_with("rule row most 2: a 1", "paper 0 2 2")
        self.refusal(desk, NoDeed, "undo")
        self.says(desk, ("stay a 0 0", "0"), ("rule row most 3: a 1", "1"), ("undo", "ok"))
        self.refusal(desk, NoDeed, "undo")

    def test_stays_that_a_new_rule_breaks(self):
        desk = desk_with("stay a 0 9")
        self.says(desk, ("rule row most 3: a 1", "0"), ("check", "3 0 0"), ("stay a 10 12", "1"), ("count 0 12", "13"))
        for row in ("last a 20", "back a 20", "plan 20 3 a", "plan 20 0 a"):
            self.not_let(desk, row, (3, 0, 0))


class NoRows(Desks):
    def setUp(self):
        self.desk = desk_with("rule row most 2: a 1", "stay a 0 0", "stay b 4 4", "paper 0 7 8")

    def no_row(self, *rows):
        for row in rows:
            self.refusal(self.desk, NoRow, row)
            self.refusal(Desk(), NoRow, row)

    def test_no_row_at_all(self):
        self.no_row("", " ", "  ", None, True, False, 0, 5, [], ["rules"], (), ("rules",))

    def test_wrong_first_words(self):
        self.no_row("x", "Rules", "RULES", "rulesx", "xrules", "rule", "Rule row most 1: a 1", "papers", "paper", "staying",
                    "stay", "let", "ok", "undo1", "redo", "-", "0", "rules\n", "\nrules", "rules\t", "rul", "say rules",
                    "rule\trow most 1: a 1", "rules|", "help", "w", "n", "nnn", "plans 0 1 a", "counts 0 0", "undo\n",
                    "check\n", "stays\n")

    def test_too_few_words(self):
        self.no_row("paper", "paper 0", "paper 0 1", "stay", "stay a", "stay a 9", "take", "move", "move 0", "move 0 9",
                    "count", "count 0", "last", "last a", "back", "back a", "plan", "plan 9", "plan 9 3")

    def test_too_many_words(self):
        self.no_row("paper 0 1 2 3", "stay a 9 9 9", "stay a a 9 9", "take 0 0", "move 0 9 9 9", "undo 0", "undo undo",
                    "rules 0", "rules rules", "stays 0", "stays a", "check 0", "check let", "count 0 0 0", "last a 9 9",
                    "last a b 9", "back a 9 9")

    def test_words_without_signs(self):
        self.no_row(" rules", "rules ", "  rules", "rules  ", " stays", "stays ", "check ", " check", "undo ", " undo",
                    "take  0", "take 0 ", " take 0", "take ", "take  ", "stay  9 9", "stay a  9 9", "stay a 9 9 ",
                    "stay a 9  9", "stay a 9 ", " stay a 9 9", "paper  0 1 1", "paper 0 1 ", "move 0 9 9 ", "move  0 9 9",
                    "count  0 0", "count 0 ", "last  9", "last a ", "last  a 9", "back  9", "back a  9", "back a ",
                    "plan 9 3 ", "plan 9 3  a", "plan 9 3 a ", "plan 9 3 a  b", "plan  9 3 a", "plan 9  3 a",
                    " plan 9 3 a", " rule row most 1: a 1", "  rule row most 1: a 1")

    def test_numbers_that_are_none(self):
        for word in ("00", "01", "007", "0000000000", "12345678901", "00000000001", "99999999999", "+1", "-1", "-0", "a",
                     "1a", "a1", "1.", "1.0", "1_0", "1,", "0x1", "one", "\u0661", "\u00b2", "\uff11", "1\n", "\t1"):
            self.no_row(f"paper {word} 1 1", f"paper 0 {word} 99", f"paper 0 1 {word}", f"stay a {word} 99",
                        f"stay a 9 {word}", f"take {word}", f"move {word} 9 9", f"move 0 {word} 99", f"move 0 9 {word}",
                        f"count {word} 0", f"count 0 {word}", f"last a {word}", f"back a {word}", f"plan {word} 3 a",
                        f"plan 9 {word} a")

    def test_a_plan_of_more_than_sixty_days(self):
        self.no_row("plan 9 61 a", "plan 9 99 a", "plan 9 100 a", "plan 9 9999999999 a", "plan 9 61 a b",
                    "plan 0 61 a", "plan 9999999999 61 a", "plan 9 61 A", "plan 9 61 a a")
        self.assertEqual(len(self.desk.say("plan 9 60 c").split(" ")), 60)

    def test_no_row_goes_ahead_of_all_other_refusals(self):
        self.says(self.desk, ("stay a 9 12", "2"), ("check", "11 0 9"))
        self.no_row("last A 01", "back A x", "plan 0 61 a a", "take 01", "move 7 01 3", "stay A 5 04", "paper 9 3 02",
                    "count 9 x", "last a 0 0", "undo 0", "plan 0 5 ", "plan 0 x A")


class Refusals(Desks):
    def setUp(self):
        self.desk = desk_with("rule row most 2: a 1", "stay a 10 11", "stay b 20 24", "paper 0 7 8")

    def test_no_text(self):
        for line in ("", " ", "row", "row most 2: a", "row most 2: a 0", "row most 2: a 10", "row most 2: A 1",
                     "row most 02: a 1", "row most 2 : a 1", "row most 2:a 1", " row most 2: a 1", "row most 2: a 1 ",
                     "row  most 2: a 1", "within most 2: a 1", "within 0 most 2: a 1", "since 5 most 2: a 1,b 1",
                     "row most 2: a 1, a 1", "row most 1000000001: a 1", "rule row most 2: a 1", "row most 2: a 1\n",
                     "row most 2: a 1 | row most 2: a 1"):
            self.refusal(self.desk, NoText, "rule " + line)
            self.refusal(Desk(), NoText, "rule " + line)

    def test_a_ninth_rule(self):
        desk = desk_with(*["rule row most 2: a 1"] * 8)
        for turn in range(2):
            self.refusal(desk, NoRule, "rule row most 3: a 1")
        self.says(desk, ("rules", " | ".join(["row most 2: a 1"] * 8)))

    def test_papers(self):
        for row in ("paper 1 0 0", "paper 9999999999 0 0", "paper 0 5 4", "paper 0 0 1000000001", "paper 0 1000000001 0",
                    "paper 0 9999999999 9999999999", "paper 8 5 4"):
            self.no_paper(self.desk, row, 1)
            self.no_paper(Desk(), row, 0)
        self.no_paper(Desk(), "paper 0 0 0", 0)

    def test_a_thirteenth_paper(self):
        desk = desk_with("rule row most 2: a 1", *[f"paper 0 {3 * place} {3 * place}" for place in range(12)])
        self.no_paper(desk, "paper 0 99 99", None)
        # A wrong one is told as the first thing that is no paper.
        self.no_paper(desk, "paper 1 99 99", 12)
        self.no_paper(desk, "paper 0 99 98", 12)

    def test_stays(self):
        for row, number in (
            ("stay a 9 10", 0), ("stay a 10 10", 1), ("stay b 11 12", 1), ("stay a 12 20", 1), ("stay a 24 24", 2),
            ("stay a 0 99", 0), ("stay a 5 4", 0), ("stay a 15 14", 1), ("stay a 30 29", 2), ("stay a 30 1000000001", 2),
            ("stay a 9999999999 9999999999", 2), ("stay A 5 5", 0), ("stay 7 5 5", 0), ("stay abcdefghi 15 15", 1),
            ("stay a1 30 30", 2), ("stay - 30 30", 2), ("stay \u00e9 30 30", 2), ("stay a\n 30 30", 2),
        ):
            self.no_stay(self.desk, row, number)

    def test_a_sixty_first_stay(self):
        desk = desk_with(*[f"stay a {3 * place} {3 * place}" for place in range(60)])
        self.no_stay(desk, "stay a 1 1", 1)
        self.no_stay(desk, "stay a 900 900", 60)
        self.says(desk, ("stays", ", ".join(f"a {3 * place} {3 * place}" for place in range(60))), ("take 5", "ok"),
                  ("stay b 900 901", "59"))

    def test_take_and_move(self):
        for number in (2, 3, 60, 9999999999):
            self.no_stay(self.desk, f"take {number}", number)
            for days in ("30 31", "5 4", "10 10", "9999999999 9999999999"):
                self.no_stay(self.desk, f"move {number} {days}", number)
        for row, number in (("move 0 24 24", 1), ("move 0 19 20", 0), ("move 1 10 10", 1), ("move 1 9 10", 0),
                            ("move 0 12 10", 0), ("move 0 30 29", 1), ("move 1 5 4", 0), ("move 0 30 1000000001", 1)):
            self.no_stay(self.desk, row, number)
        self.no_stay(Desk(), "take 0", 0)
        self.no_stay(Desk(), "move 0 1 1", 0)

    def test_undo(self):
        self.refusal(Desk(), NoDeed, "undo")
        self.says(self.desk, ("undo", "ok"), ("undo", "ok"))
        for turn in range(2):
            self.refusal(self.desk, NoDeed, "undo")
        self.says(self.desk, ("stay a 1 1", "0"), ("undo", "ok"))
        self.refusal(self.desk, NoDeed, "undo")

    def test_what_is_refused_is_no_deed(self):
        self.no_stay(self.desk, "stay a 10 10", 1)
        self.no_stay(self.desk, "take 2", 2)
        self.no_stay(self.desk, "move 0 20 20", 1)
        self.refusal(self.desk, NoRow, "stay a 10")
        self.refusal(self.desk, NoText, "rule x")
        self.no_paper(self.desk, "paper 1 1 1", 1)
        self.says(self.desk, ("undo", "ok"), ("stays", "a 10 11"), ("undo", "ok"), ("stays", ""))
        self.refusal(self.desk, NoDeed, "undo")

    def test_count(self):
        for row in ("count 1 5", "count 8 0", "count 9999999999 9999999999"):
            self.refusal(self.desk, NoRule, row)
        self.refusal(Desk(), NoRule, "count 0 0")

    def test_last_and_back(self):
        for word in ("last", "back"):
            for row in (f"{word} a 24", f"{word} a 0", f"{word} b 10", f"{word} a 1000000001", f"{word} a 9999999999",
                        f"{word} A 30", f"{word} 7 30", f"{word} abcdefghi 30", f"{word} - 30", f"{word} A 0"):
                self.no_stay(self.desk, row, 2)
            self.no_stay(Desk(), f"{word} A 0", 0)
            self.no_stay(Desk(), f"{word} a 1000000001", 0)

    def test_plan(self):
        for days in (0, 1, 60):
            for first in (24, 0, 1000000001, 9999999999):
                self.no_stay(self.desk, f"plan {first} {days} a", 2)
                self.no_stay(self.desk, f"plan {first} {days} A", 2)
                self.no_stay(self.desk, f"plan {first} {days} a a", 2)
            for lands in ("A", "a a", "a b a", "a b c d e f g", "7", "-", "a B", "abcdefghi", "a\n"):
                self.refusal(self.desk, NoWish, f"plan 30 {days} {lands}")
                self.refusal(Desk(), NoWish, f"plan 0 {days} {lands}")

    def test_not_let_goes_ahead_of_what_is_refused_behind_it(self):
        self.desk.say("stay a 30 40")
        for row in ("last a 50", "last A 50", "last a 0", "last a 9999999999", "back a 50", "back A 0", "plan 50 3 a",
                    "plan 0 3 a", "plan 50 3 a a", "plan 0 60 A", "plan 50 0 a"):
            self.not_let(self.desk, row, (32, 0, 30))
        self.refusal(self.desk, NoRow, "plan 50 61 a")
        self.refusal(self.desk, NoRow, "last a 05")
        self.refusal(self.desk, NoRule, "count 1 5")
        self.says(self.desk, ("check", "32 0 30"), ("count 0 40", "11"))


if __name__ == "__main__":
    unittest.main()
