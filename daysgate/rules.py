"""The three kinds of rules, and the lines in which they are written."""

from daysgate.checks import GREATEST, is_between, is_name, is_written_number
from daysgate.errors import NoRule, NoText

MOST_LANDS = 6
GREATEST_WEIGHT = 9


def is_land(thing):
    if not isinstance(thing, tuple) or len(thing) != 2:
        return False
    return is_name(thing[0]) and is_between(thing[1], 1, GREATEST_WEIGHT)


def are_lands(things):
    if not isinstance(things, list) or len(things) < 1 or len(things) > MOST_LANDS:
        return False
    names = []
    for thing in things:
        if not is_land(thing) or thing[0] in names:
            return False
        names.append(thing[0])
    return True


class Rule:
    """What all rules have; a book takes only those of the kinds under it."""

    def __init__(self, lands, most):
        if not are_lands(lands):
            raise NoRule("lands: one to six tuples of a name and a weight from 1 to 9, each name once")
        if not is_between(most, 0, GREATEST):
            raise NoRule("most: a whole number from 0 to 10 ** 9")
        # A tuple, so that whoever reads it can't change the rule.
        self.lands = tuple(lands)
        self.most = most

    def weight(self, land):
        for name, times in self.lands:
            if name == land:
                return times
        return 0


class Within(Rule):
    """At most so much in any so many days."""

    def __init__(self, lands, most, span):
        Rule.__init__(self, lands, most)
        if not is_between(span, 1, GREATEST):
            raise NoRule("span: a whole number from 1 to 10 ** 9")
        self.span = span

    def line(self):
        span = self.span
        return line_of(f"within {span}", self)


class Since(Rule):
    """At most so much since the last leave of so many days."""

    def __init__(self, lands, most, leave):
        Rule.__init__(self, lands, most)
        if not is_between(leave, 1, GREATEST):
            raise NoRule("leave: a whole number from 1 to 10 ** 9")
        self.leave = leave

    def line(self):
        leave = self.leave
        return line_of(f"since {leave}", self)


class InRow(Since):
    """At most so much in a row: one day that counts nothing ends it."""

    def __init__(self, lands, most):
        Since.__init__(self, lands, most, 1)

    def line(self):
        return line_of("row", self)


def line_of(kind, rule):
    most = rule.most
    lands = ", ".join([f"{name} {times}" for name, times in rule.lands])
    return f"{kind} most {most}: {lands}"


def read_number(word):
    if not is_written_number(word):
        raise NoText(f"no number: {word!r}")
    return int(word)


def read_lands(text):
    lands = []
    for part in text.split(", "):
        words = part.split(" ")
        if len(words) != 2:
            raise NoText(f"no name and weight: {part!r}")
        lands.append((words[0], read_number(words[1])))
    return lands


def rule_of(words, lands):
    if len(words) == 3 and words[0] == "row" and words[1] == "most":
        return InRow(lands, read_number(words[2]))
    if len(words) == 4 and words[0] == "within" and words[2] == "most":
        return Within(lands, read_number(words[3]), read_number(words[1]))
    if len(words) == 4 and words[0] == "since" and words[2] == "most":
        return Since(lands, read_number(words[3]), read_number(words[1]))
    raise NoText("no rule begins like this")


def read_rule(text):
    if not isinstance(text, str):
        raise NoText("no text")
    parts = text.partition(": ")
    try:
        return rule_of(parts[0].split(" "), read_lands(parts[2]))
    except NoRule:
        raise NoText(f"no rule's line: {text!r}") from None
