"""Two books: the shortest row of days that one of them lets and the other does not."""

from daysgate.checks import are_names
from daysgate.errors import NoWish
from daysgate.sums import fault_among

MOST_NAMES = 2


def lets(book, row):
    return fault_among(book, [(land, day, day) for day, land in enumerate(row) if land is not None]) is None


def longer_rows(rows, lands):
    """All rows that are one day longer, in their order where the rows are in theirs."""
    found = []
    for row in rows:
        found.extend([row + [land] for land in lands + [None]])
    return found


def parted(one, other, lands, days):
    if not are_names(lands, MOST_NAMES):
        raise NoWish("lands: a list of one or two names, each once")
    rows = [[]]
    for turn in range(days):
        longer = longer_rows(rows, lands)
        rows = []
        for row in longer:
            let = lets(one, row)
            if let != lets(other, row):
                return row
            # What neither of them lets is not let by either, whatever days come behind it.
            if let:
                rows.append(row)
    return None
