"""What is a whole number, a name, a list of names, a pair of days, a number written with figures."""

# The greatest day that may be stayed or lifted; spans, leaves and mosts end with the same number.
GREATEST = 1000000000

LETTERS = "abcdefghijklmnopqrstuvwxyz"
LONGEST_NAME = 8

FIGURES = "0123456789"
MOST_FIGURES = 10


def is_whole(thing):
    # Python counts True and False among its int; here they are no numbers.
    return isinstance(thing, int) and not isinstance(thing, bool)


def is_between(thing, least, greatest):
    return is_whole(thing) and least <= thing and thing <= greatest


def are_days(first, last):
    return is_between(first, 0, GREATEST) and is_between(last, 0, GREATEST) and first <= last


def is_made_of(text, signs):
    for sign in text:
        if sign not in signs:
            return False
    return True


def is_name(thing):
    if not isinstance(thing, str):
        return False
    return 1 <= len(thing) and len(thing) <= LONGEST_NAME and is_made_of(thing, LETTERS)


def are_names(things, many):
    """Whether it is a list of one to so many names, each once."""
    if not isinstance(things, list) or len(things) < 1 or len(things) > many:
        return False
    names = []
    for thing in things:
        if not is_name(thing) or thing in names:
            return False
        names.append(thing)
    return True


def is_written_number(word):
    if len(word) < 1 or len(word) > MOST_FIGURES:
        return False
    if word[0] == "0" and len(word) > 1:
        return False
    # Python's own isdigit and int take other figures too, so each sign is asked for.
    return is_made_of(word, FIGURES)
