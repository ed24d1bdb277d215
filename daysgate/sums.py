"""What is let, told by pieces: stretches of days that count alike, however long they are."""

from daysgate.days import less
from daysgate.rules import Within
from daysgate.stays import stays_of


def pieces_among(book, number, stays):
    """As pieces_of, of stays that are known to be right, or that reach further than stays may."""
    rule = book.rules()[number]
    lifted = book.lifted(number)
    pieces = []
    for land, first, last in stays:
        weight = rule.weight(land)
        if weight > 0:
            pieces.extend([(begin, end, weight) for begin, end in less([(first, last)], lifted)])
    return pieces


def pieces_of(book, number, stays):
    return pieces_among(book, number, stays_of(stays))


def sum_of(pieces, first, last):
    total = 0
    for begin, end, weight in pieces:
        days = min(end, last) - max(begin, first) + 1
        if days > 0:
            total = total + days * weight
    return total


def first_since(pieces, leave, day):
    """The day behind the last leave that ends with the day or before."""
    first = day + 1
    for begin, end, weight in reversed(pieces):
        if begin <= day:
            if first - 1 - min(end, day) >= leave:
                return first
            first = begin
    return first


def first_of_window(rule, pieces, day):
    if isinstance(rule, Within):
        return day - rule.span + 1
    return first_since(pieces, rule.leave, day)


def count_among(rule, pieces, day):
    return sum_of(pieces, first_of_window(rule, pieces, day), day)


def count_of(book, number, stays, day):
    return count_among(book.rules()[number], pieces_of(book, number, stays), day)


def turns_of(rule, pieces):
    """The days, in order, with which a span begins to leave a piece behind, or has left it."""
    found = []
    if isinstance(rule, Within):
        for begin, end, weight in pieces:
            found.append(begin + rule.span)
            found.append(end + 1 + rule.span)
    return found


def first_above(rule, pieces, begin, end):
    """The first day from begin to end on which the rule is broken, or None.

    On all these days the count grows by the same, and on the day ahead of them the rule is not broken.
    """
    count = count_among(rule, pieces, begin - 1)
    growth = count_among(rule, pieces, begin) - count
    if growth <= 0:
        return None
    day = begin + (rule.most - count) // growth
    return day if day <= end else None


def first_broken(rule, pieces):
    """The first day on which the rule is broken, or None."""
    turns = turns_of(rule, pieces)
    # On days that are in no piece the count does not grow.
    for first, last, weight in pieces:
        begins = [first] + [turn for turn in turns if first < turn and turn <= last]
        ends = [begin - 1 for begin in begins[1:]] + [last]
        for begin, end in zip(begins, ends):
            day = first_above(rule, pieces, begin, end)
            if day is not None:
                return day
    return None


def fault_among(book, stays):
    """As fault_of, of stays that are known to be right, or that reach further than stays may."""
    fault = None
    for number, rule in enumerate(book.rules()):
        pieces = pieces_among(book, number, stays)
        day = first_broken(rule, pieces)
        if day is not None and (fault is None or day < fault[0]):
            fault = (day, number, first_of_window(rule, pieces, day))
    return fault


def fault_of(book, stays):
    return fault_among(book, stays_of(stays))
