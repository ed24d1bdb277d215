"""Plans: day by day the first wish that is let."""

from daysgate.checks import are_names
from daysgate.errors import NoWish
from daysgate.limits import check_day, let_stays
from daysgate.stays import stays_of
from daysgate.sums import count_among, first_of_window, pieces_among

MOST_WISHES = 6


def fault_on(book, stays, day):
    """The fault of stays, the last of which is that day alone, and which are let without it."""
    # On a day out no count grows, so the day itself is the only one on which a rule can be broken.
    for number, rule in enumerate(book.rules()):
        pieces = pieces_among(book, number, stays)
        if count_among(rule, pieces, day) > rule.most:
            return (day, number, first_of_window(rule, pieces, day))
    return None


def planned_day(book, stays, wishes, day):
    passed = []
    for wish in wishes:
        fault = fault_on(book, stays + [(wish, day, day)], day)
        if fault is None:
            return (day, wish, passed)
        passed.append((wish, fault))
    return (day, None, passed)


def plan_of(book, stays, wishes, first, days):
    kept = let_stays(book, stays)
    check_day(kept, first)
    if not are_names(wishes, MOST_WISHES):
        raise NoWish("wishes: a list of one to six names, each once")
    plan = []
    # To be out on all days behind it breaks nothing: so the first wish that is let is never taken too early.
    for day in range(first, first + days):
        planned = planned_day(book, kept, wishes, day)
        plan.append(planned)
        if planned[1] is not None:
            kept.append((planned[1], day, day))
    return plan


def stays_by(stays, plan):
    runs = []
    for day, land, passed in plan:
        if runs and runs[-1][0] == land and runs[-1][2] == day - 1:
            runs[-1] = (land, runs[-1][1], day)
        elif land is not None:
            runs.append((land, day, day))
    return stays_of(stays) + runs
