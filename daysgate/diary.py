"""A diary: stays that are put in, taken out, moved, and the days on which that changes a count."""

from daysgate.checks import is_between
from daysgate.days import less, spread
from daysgate.errors import NoDeed, NoStay
from daysgate.rules import Since
from daysgate.stays import stays_of
from daysgate.sums import count_among, pieces_of, turns_of


def edges_of(rule, pieces):
    """Days that part all others: from one of them up to the next the count changes by the same each day."""
    found = turns_of(rule, pieces)
    for begin, end, weight in pieces:
        found.append(begin)
        found.append(end + 1)
        if isinstance(rule, Since):
            # With this day a leave ends: the count falls to nought at once.
            found.append(end + rule.leave)
    return found


def difference(rule, one, other, day):
    return count_among(rule, one, day) - count_among(rule, other, day)


def unlike_days(rule, one, other, begin, end):
    """The spread of days, from begin to end, with other counts, where no edge lies behind begin."""
    apart = difference(rule, one, other, begin)
    growth = difference(rule, one, other, min(begin + 1, end)) - apart
    if growth == 0:
        return [] if apart == 0 else [(begin, end)]
    if apart % growth != 0:
        return [(begin, end)]
    # The two counts run through one another: they are the same on one day alone.
    alike = begin - apart // growth
    return less([(begin, end)], [(alike, alike)])


def changed_days(book, number, old, new):
    rule = book.rules()[number]
    one = pieces_of(book, number, old)
    other = pieces_of(book, number, new)
    edges = sorted(set(edges_of(rule, one) + edges_of(rule, other)))
    stretches = []
    # Ahead of the first edge and from the last one on both counts are nought.
    for begin, behind in zip(edges, edges[1:]):
        stretches.extend(unlike_days(rule, one, other, begin, behind - 1))
    return spread(stretches)


def place_of(others, first):
    return len([other for other in others if other[1] <= first])


def stays_with(others, stay, place):
    try:
        return stays_of(others[:place] + [stay] + others[place:])
    except NoStay:
        raise NoStay(place) from None


class Diary:
    """Stays by a book, and the deeds that can be taken back."""

    def __init__(self, book):
        self.book = book
        self.kept_stays = []
        # For each deed the stays as they were ahead of it: so each kind of deed is taken back alike.
        self.earlier = []

    def stays(self):
        return list(self.kept_stays)

    def changes(self, stays):
        """For each rule the spread of days on which its count becomes another one with these stays."""
        many = len(self.book.rules())
        return [changed_days(self.book, number, self.kept_stays, stays) for number in range(many)]

    def do(self, stays):
        changes = self.changes(stays)
        self.earlier.append(self.kept_stays)
        self.kept_stays = stays
        return changes

    def others(self, number):
        if not is_between(number, 0, len(self.kept_stays) - 1):
            raise NoStay(number)
        return self.kept_stays[:number] + self.kept_stays[number + 1:]

    def put(self, land, first, last):
        place = place_of(self.kept_stays, first)
        return (place, self.do(stays_with(self.kept_stays, (land, first, last), place)))

    def take(self, number):
        return self.do(self.others(number))

    def move(self, number, first, last):
        others = self.others(number)
        stay = (self.kept_stays[number][0], first, last)
        return self.do(stays_with(others, stay, place_of(others, first)))

    def undo(self):
        if not self.earlier:
            raise NoDeed("no deed is left to take back")
        stays = self.earlier.pop()
        changes = self.changes(stays)
        self.kept_stays = stays
        return changes
