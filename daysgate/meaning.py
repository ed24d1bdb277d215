"""What is let, counted day by day: what the words mean, not how to tell it fast."""

from daysgate.days import holds
from daysgate.rules import Within
from daysgate.stays import land_among, stays_of


def weigh(rule, lifted, stays, day):
    if holds(lifted, day):
        return 0
    return rule.weight(land_among(stays, day))


def count_within(rule, lifted, stays, day):
    first = day - rule.span + 1
    return (first, sum([weigh(rule, lifted, stays, one) for one in range(first, day + 1)]))


def count_since(rule, lifted, stays, day):
    first = day + 1
    total = 0
    empty = 0
    back = day
    # This comes to an end: ahead of all stays each day counts 0.
    while empty < rule.leave:
        weight = weigh(rule, lifted, stays, back)
        if weight == 0:
            empty = empty + 1
        else:
            # The days that counted 0 so far were too few for a leave, so the window reaches further back.
            empty = 0
            first = back
            total = total + weight
        back = back - 1
    return (first, total)


def window_by_days(rule, lifted, stays, day):
    """The first day of the window that ends with the day, and the count."""
    if isinstance(rule, Within):
        return count_within(rule, lifted, stays, day)
    return count_since(rule, lifted, stays, day)


def weight_on(book, number, stays, day):
    return weigh(book.rules()[number], book.lifted(number), stays_of(stays), day)


def count_by_days(book, number, stays, day):
    return window_by_days(book.rules()[number], book.lifted(number), stays_of(stays), day)[1]


def fault_by_days(book, stays):
    kept = stays_of(stays)
    if not kept:
        return None
    rules = book.rules()
    lifts = [book.lifted(number) for number in range(len(rules))]
    # On a day out no count grows, so no rule is first broken behind the last stay.
    for day in range(kept[0][1], kept[-1][2] + 1):
        for number, rule in enumerate(rules):
            window = window_by_days(rule, lifts[number], kept, day)
            if window[1] > rule.most:
                return (day, number, window[0])
    return None
