"""A desk: it is told rows, one at a time, and answers each with a text."""

from daysgate.books import Book
from daysgate.checks import is_written_number
from daysgate.diary import Diary
from daysgate.errors import NoRow, NoRule
from daysgate.limits import first_back, last_day
from daysgate.plans import plan_of
from daysgate.rules import read_rule
from daysgate.sums import count_of, fault_of

RULE = "rule "
MOST_DAYS = 60

# What follows the first word: n stands for a number, w for a word of any other kind.
FORMS = {
    "paper": "nnn",
    "stay": "wnn",
    "take": "n",
    "move": "nnn",
    "undo": "",
    "rules": "",
    "stays": "",
    "check": "",
    "count": "nn",
    "last": "wn",
    "back": "wn",
    "plan": "nnw",
}


def form_of(words):
    if words[0] not in FORMS:
        raise NoRow(f"no such row: {words!r}")
    form = FORMS[words[0]]
    # A plan takes as many lands as come; whether they are a wish list is not asked here.
    if words[0] == "plan":
        form = form + "w" * (len(words) - len(form) - 1)
    return form


def read_word(word, kind):
    if kind == "w" and word != "":
        return word
    if kind == "n" and is_written_number(word):
        return int(word)
    raise NoRow(f"no such word here: {word!r}")


def read_row(row):
    """The words of a row, those that stand for numbers as whole numbers."""
    if not isinstance(row, str):
        raise NoRow("no text")
    words = row.split(" ")
    form = form_of(words)
    if len(words) != len(form) + 1:
        raise NoRow(f"too few or too many words: {row!r}")
    read = [words[0]] + [read_word(word, kind) for word, kind in zip(words[1:], form)]
    if read[0] == "plan" and read[2] > MOST_DAYS:
        raise NoRow("a plan of more than sixty days")
    return read


def joined(parts):
    return " ".join([str(part) for part in parts])


def fault_text(fault):
    return "let" if fault is None else joined(fault)


def last_text(found):
    if found[0] is None:
        return "ever"
    day = found[0]
    fault = joined(found[1])
    return f"{day}: {fault}"


def plan_text(plan):
    return " ".join(["-" if land is None else land for day, land, passed in plan])


class Desk:
    """A book that grows, and a diary."""

    def __init__(self):
        self.book = Book([], [])
        # A desk tells no spreads, so its diary needs no rules: those that come leave it as it is.
        self.diary = Diary(Book([], []))

    def say(self, row):
        # What follows in such a row is a line, not words.
        if isinstance(row, str) and row.startswith(RULE):
            return self.add_rule(read_rule(row[len(RULE):]))
        words = read_row(row)
        if words[0] in ("paper", "stay", "take", "move", "undo"):
            return self.carry_out(words)
        if words[0] in ("rules", "stays", "check"):
            return self.tell(words[0])
        return self.answer(words)

    def add_rule(self, rule):
        rules = self.book.rules()
        self.book = Book(rules + [rule], self.book.papers())
        return str(len(rules))

    def carry_out(self, words):
        if words[0] == "stay":
            return str(self.diary.put(words[1], words[2], words[3])[0])
        if words[0] == "paper":
            self.book = Book(self.book.rules(), self.book.papers() + [(words[1], words[2], words[3])])
        elif words[0] == "take":
            self.diary.take(words[1])
        elif words[0] == "move":
            self.diary.move(words[1], words[2], words[3])
        else:
            self.diary.undo()
        return "ok"

    def tell(self, word):
        if word == "rules":
            return " | ".join([rule.line() for rule in self.book.rules()])
        stays = self.diary.stays()
        if word == "stays":
            return ", ".join([joined(stay) for stay in stays])
        return fault_text(fault_of(self.book, stays))

    def count_text(self, number, day):
        if number >= len(self.book.rules()):
            raise NoRule(f"no rule has the number {number}")
        return str(count_of(self.book, number, self.diary.stays(), day))

    def answer(self, words):
        stays = self.diary.stays()
        if words[0] == "count":
            return self.count_text(words[1], words[2])
        if words[0] == "last":
            return last_text(last_day(self.book, stays, words[1], words[2]))
        if words[0] == "back":
            day = first_back(self.book, stays, words[1], words[2])
            return "never" if day is None else str(day)
        return plan_text(plan_of(self.book, stays, words[3:], words[1], words[2]))
