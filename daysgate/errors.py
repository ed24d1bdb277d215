"""The refusals: one class for each, all under DayError."""


class DayError(ValueError):
    """Any refusal."""


class NoRule(DayError):
    """What is handed in makes no rule, or no list of rules."""


class NoPaper(DayError):
    """What is handed in is no list of papers."""

    def __init__(self, number):
        DayError.__init__(self, f"no papers: {number}")
        self.number = number


class NoStay(DayError):
    """What is handed in is no list of stays, or no stay that may stand there."""

    def __init__(self, number):
        DayError.__init__(self, f"no stays: {number}")
        self.number = number


class NotLet(DayError):
    """The stays break a rule."""

    def __init__(self, day, number, first):
        DayError.__init__(self, f"not let on day {day}: rule {number}, counted from day {first}")
        self.day = day
        self.number = number
        self.first = first


class NoWish(DayError):
    """What is handed in is no wish list."""


class NoDeed(DayError):
    """No deed is left to take back."""


class NoText(DayError):
    """The text is no rule's line."""


class NoRow(DayError):
    """The row is none that the desk knows."""
