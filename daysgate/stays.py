"""Stays: in which land the traveller is on which days."""

from daysgate.checks import are_days, is_name
from daysgate.errors import NoStay

MOST_STAYS = 60


def is_stay(thing):
    if not isinstance(thing, tuple) or len(thing) != 3:
        return False
    return is_name(thing[0]) and are_days(thing[1], thing[2])


def stays_of(some):
    if not isinstance(some, list):
        raise NoStay(None)
    end = -1
    for number, thing in enumerate(some):
        if not is_stay(thing) or thing[1] <= end:
            raise NoStay(number)
        end = thing[2]
    # Only behind the walk: a wrong thing is told ahead of too many right ones.
    if len(some) > MOST_STAYS:
        raise NoStay(None)
    return list(some)


def land_among(stays, day):
    """As land_on, of stays that are known to be right."""
    for land, first, last in stays:
        if first <= day and day <= last:
            return land
    return None


def land_on(stays, day):
    return land_among(stays_of(stays), day)
