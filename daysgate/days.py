"""Stretches and spreads of days."""


def spread(stretches):
    found = []
    for first, last in sorted(stretches):
        # Neighbours become one stretch too: each set of days has just one spread.
        if found and first <= found[-1][1] + 1:
            found[-1] = (found[-1][0], max(found[-1][1], last))
        else:
            found.append((first, last))
    return found


def both(one, other):
    found = []
    here = 0
    there = 0
    while here < len(one) and there < len(other):
        first = max(one[here][0], other[there][0])
        last = min(one[here][1], other[there][1])
        if first <= last:
            found.append((first, last))
        # The stretch that ends later may still meet the next one of the other spread.
        if one[here][1] < other[there][1]:
            here = here + 1
        else:
            there = there + 1
    return found


def outside(one, first, last):
    """A spread that has, of the days from first to last, just those that are not in one."""
    found = []
    begin = first
    for taken in one:
        if begin < taken[0]:
            found.append((begin, taken[0] - 1))
        begin = max(begin, taken[1] + 1)
    if begin <= last:
        found.append((begin, last))
    return found


def less(one, other):
    if not one:
        return []
    return both(one, outside(other, one[0][0], one[-1][1]))


def size(one):
    return sum([last - first + 1 for first, last in one])


def holds(one, day):
    for first, last in one:
        if first <= day and day <= last:
            return True
    return False
