"""How long a further stay may last, and when one may come back."""

from daysgate.checks import GREATEST, is_between, is_name
from daysgate.days import less, spread
from daysgate.errors import NoStay, NotLet
from daysgate.rules import Within
from daysgate.stays import stays_of
from daysgate.sums import count_among, fault_among, pieces_among

# Papers end with day 10 ** 9, and spans, leaves and mosts are no greater: whatever happens, happens ahead of this day.
NEVER = 3000000000


def let_stays(book, stays):
    kept = stays_of(stays)
    fault = fault_among(book, kept)
    if fault is not None:
        raise NotLet(fault[0], fault[1], fault[2])
    return kept


def check_day(stays, day):
    if not is_between(day, 0, GREATEST) or (stays and day <= stays[-1][2]):
        raise NoStay(len(stays))


def check_land(stays, land):
    if not is_name(land):
        raise NoStay(len(stays))


def last_day(book, stays, land, first):
    kept = let_stays(book, stays)
    check_day(kept, first)
    check_land(kept, land)
    # A fault is the same whatever comes behind its day: that of a stay long enough is that of the first day too many.
    fault = fault_among(book, kept + [(land, first, NEVER)])
    if fault is None:
        return (None, None)
    return (fault[0] - 1, fault)


def least_begin(pieces, room):
    """The least day from which on the pieces, that count more in all, count no more than the room."""
    begin = NEVER
    left = room
    for first, last, weight in reversed(pieces):
        days = min(left // weight, last - first + 1)
        begin = last - days + 1
        if begin > first:
            return begin
        left = left - days * weight
    return begin


def first_free(rule, pieces, day, weight):
    """The first day, the told one or behind it, from which on one day of that weight does not break the rule."""
    if count_among(rule, pieces + [(day, day, weight)], day) <= rule.most:
        return day
    if weight > rule.most:
        return NEVER
    if isinstance(rule, Within):
        return least_begin(pieces, rule.most - weight) + rule.span - 1
    # Only a whole leave takes anything away from the count.
    return pieces[-1][1] + rule.leave + 1


def barred_days(book, number, stays, land, first):
    """The spread of the days, from the first on, on which one day in the land would break the rule."""
    rule = book.rules()[number]
    weight = rule.weight(land)
    if weight == 0:
        return []
    free = first_free(rule, pieces_among(book, number, stays), first, weight)
    if free == first:
        return []
    return less([(first, free - 1)], book.lifted(number))


def first_back(book, stays, land, first):
    kept = let_stays(book, stays)
    check_day(kept, first)
    check_land(kept, land)
    stretches = []
    for number in range(len(book.rules())):
        stretches.extend(barred_days(book, number, kept, land, first))
    barred = spread(stretches)
    if not barred or first < barred[0][0]:
        return first
    day = barred[0][1] + 1
    return day if day < NEVER else None
