"""What the tests hold the program against: the document's words, day by day, and sums of their own.

A rule is told here as (kind, lands, most, days): kind "within", "since" or "row", days its span or its leave.
"""

import itertools
import random

from daysgate.books import Book
from daysgate.rules import InRow, Since, Within

TOP = 10 ** 9


def rule_of(told):
    kind, lands, most, days = told
    if kind == "within":
        return Within(list(lands), most, days)
    if kind == "since":
        return Since(list(lands), most, days)
    return InRow(list(lands), most)


def book_of(rules, papers=()):
    return Book([rule_of(told) for told in rules], list(papers))


def leave_of(told):
    return 1 if told[0] == "row" else told[3]


def counted_days(rules, papers, number, stays):
    """What each single day counts, without the days that count 0."""
    found = {}
    for land, first, last in stays:
        for day in range(first, last + 1):
            lifted = any(owner == number and begin <= day <= end for owner, begin, end in papers)
            weight = dict(rules[number][1]).get(land, 0)
            if weight and not lifted:
                found[day] = weight
    return found


def first_of_window(told, counted, day):
    if told[0] == "within":
        return day - told[3] + 1
    end = day
    while any(one in counted for one in range(end - leave_of(told) + 1, end + 1)):
        end -= 1
    return end + 1


def count_plainly(rules, papers, number, stays, day):
    counted = counted_days(rules, papers, number, stays)
    first = first_of_window(rules[number], counted, day)
    return sum(counted.get(one, 0) for one in range(first, day + 1))


def fault_plainly(rules, papers, stays):
    counted = [counted_days(rules, papers, number, stays) for number in range(len(rules))]
    # Some days behind the last stay, too: nothing is to come there.
    for day in range(-1, max([last for land, first, last in stays], default=0) + 4):
        for number, told in enumerate(rules):
            first = first_of_window(told, counted[number], day)
            if sum(counted[number].get(one, 0) for one in range(first, day + 1)) > told[2]:
                return (day, number, first)
    return None


def rows_of(wishes, days):
    """All rows of so many days, each ahead of those that come behind it."""
    return itertools.product(list(wishes) + [None], repeat=days)


def stays_in(row, first):
    return [(land, first + place, first + place) for place, land in enumerate(row) if land is not None]


def spread_plainly(days):
    """The spread of single days."""
    found = []
    for day in sorted(days):
        if found and found[-1][1] == day - 1:
            found[-1] = (found[-1][0], day)
        else:
            found.append((day, day))
    return found


def counts_plainly(told, counted, days):
    firsts = [(day, first_of_window(told, counted, day)) for day in days]
    return [sum(counted.get(one, 0) for one in range(first, day + 1)) for day, first in firsts]


def changed_plainly(rules, papers, number, old, new):
    told = rules[number]
    end = max([stay[2] for stay in old + new], default=0) + told[3]
    days = range(-3, end + 4)
    one, other = [counts_plainly(told, counted_days(rules, papers, number, stays), days) for stays in (old, new)]
    return spread_plainly([day for day, here, there in zip(days, one, other) if here != there])


class Draw:
    """Small or great rules, papers and stays, the same ones for the same number."""

    def __init__(self, number):
        self.chance = random.Random(number)

    def whole(self, least, greatest):
        return self.chance.randint(least, greatest)

    def rule(self, mosts, days):
        names = self.chance.sample(["a", "b", "c"], self.whole(1, 3))
        lands = [(name, self.chance.choice([1, 1, 1, 2, 3, 9])) for name in names]
        kind = self.chance.choice(["within", "within", "since", "since", "row"])
        return (kind, lands, self.whole(*mosts), 1 if kind == "row" else self.whole(*days))

    def rules(self, many, mosts, days):
        return [self.rule(mosts, days) for place in range(many)]

    def papers(self, many, rules, last, longest):
        found = []
        for place in range(many if rules else 0):
            first = self.whole(0, last)
            found.append((self.whole(0, rules - 1), first, min(TOP, first + self.whole(0, longest))))
        return found

    def stays(self, many, first, gap, longest):
        """Stays, the first of which begins at most first days behind day 0; a gap of 0 lets stays touch."""
        found = []
        day = self.whole(0, first)
        for place in range(many):
            last = day + self.whole(0, longest)
            if last > TOP:
                break
            found.append((self.chance.choice(["a", "a", "b", "c", "d"]), day, last))
            day = last + 1 + self.chance.choice([0, self.whole(0, gap)])
        return found


def counted_stretches(rules, papers, number, stays):
    """Stretches (first, last, weight) of the days that count, cut at each paper's begin and end."""
    lifts = [(begin, end) for owner, begin, end in papers if owner == number]
    cuts = {day for begin, end in lifts for day in (begin, end + 1)}
    found = []
    for land, first, last in stays:
        weight = dict(rules[number][1]).get(land, 0)
        points = [first] + sorted(day for day in cuts if first < day <= last) + [last + 1]
        for begin, behind in zip(points, points[1:]):
            if weight and not any(one <= begin <= other for one, other in lifts):
                found.append((begin, behind - 1, weight))
    return found


def sum_up_to(stretches, day):
    return sum(weight * min(max(day - first + 1, 0), last - first + 1) for first, last, weight in stretches)


def great_first(told, stretches, day):
    if told[0] == "within":
        return day - told[3] + 1
    begin = end = None
    for first, last, weight in stretches:
        if first <= day:
            if begin is None or first - end > leave_of(told):
                begin = first
            end = min(last, day)
    return day + 1 if begin is None or day - end >= leave_of(told) else begin


def great_count(told, stretches, day):
    return sum_up_to(stretches, day) - sum_up_to(stretches, great_first(told, stretches, day) - 1)


def great_days(told, stretches):
    """The days on which a count can be greatest."""
    found = [last for first, last, weight in stretches]
    if told[0] == "within":
        for first, last, weight in stretches:
            found += [edge + told[3] + some for edge in (first, last) for some in (-1, 0)]
    return found


def wrong_with_fault(rules, papers, stays, fault):
    """What speaks against a told fault, or None: asked on the days on which a count can be greatest."""
    counted = [counted_stretches(rules, papers, number, stays) for number in range(len(rules))]
    for number, told in enumerate(rules):
        days = great_days(told, counted[number])
        if fault is not None:
            days = [day for day in days if day < fault[0]] + [fault[0] - 1]
            if number < fault[1]:
                days.append(fault[0])
        for day in days:
            if great_count(told, counted[number], day) > told[2]:
                return f"rule {number} is broken on day {day}"
    if fault is not None:
        day, number, first = fault
        if great_count(rules[number], counted[number], day) <= rules[number][2]:
            return "the rule is not broken on the day"
        if great_first(rules[number], counted[number], day) != first:
            return "the window begins on another day"
    return None


def drawn_great(number, many_stays=(1, 20), many_rules=(1, 4), many_papers=(0, 5)):
    """Rules, papers and stays with gaps, lengths, spans and leaves of very different greatness."""
    draw = Draw(number)
    great = draw.chance.choice([10 ** 3, 10 ** 6, 10 ** 7])
    days = (1, draw.chance.choice([great, 30 * great, TOP]))
    rules = draw.rules(draw.whole(*many_rules), (0, draw.chance.choice([great, 20 * great, TOP])), days)
    papers = draw.papers(draw.whole(*many_papers), len(rules), min(TOP, 30 * great), 3 * great)
    return rules, papers, draw.stays(draw.whole(*many_stays), great, 2 * great, great)
