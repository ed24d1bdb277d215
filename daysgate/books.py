"""A book: rules, and papers that lift them on some days."""

from daysgate.checks import are_days, is_between
from daysgate.days import spread
from daysgate.errors import NoPaper, NoRule
from daysgate.rules import Since, Within

MOST_RULES = 8
MOST_PAPERS = 12


def are_rules(things):
    if not isinstance(things, list) or len(things) > MOST_RULES:
        return False
    for thing in things:
        # Rule itself is not asked for: what is made of the base class has no window.
        if not isinstance(thing, Within) and not isinstance(thing, Since):
            return False
    return True


def is_paper(thing, many):
    if not isinstance(thing, tuple) or len(thing) != 3:
        return False
    return is_between(thing[0], 0, many - 1) and are_days(thing[1], thing[2])


def check_papers(things, many):
    """Refuse what is no list of papers for a book with so many rules."""
    if not isinstance(things, list):
        raise NoPaper(None)
    for number, thing in enumerate(things):
        if not is_paper(thing, many):
            raise NoPaper(number)
    # Only behind the walk: a wrong thing is told ahead of too many right ones.
    if len(things) > MOST_PAPERS:
        raise NoPaper(None)


class Book:
    """Rules, numbered from 0, and papers."""

    def __init__(self, rules, papers):
        if not are_rules(rules):
            raise NoRule("rules: a list of none to eight rules of the three kinds")
        check_papers(papers, len(rules))
        self.kept_rules = list(rules)
        self.kept_papers = list(papers)

    def rules(self):
        return list(self.kept_rules)

    def papers(self):
        return list(self.kept_papers)

    def lifted(self, number):
        return spread([(first, last) for owner, first, last in self.kept_papers if owner == number])
