"""Names [7], own weights [8] and the limits of a yard [11]."""

from nestweigh.errors import BadName, BadWeight

MOST_WEIGHT = 1000000000
MOST_BOXES = 12
MOST_SHELVES = 4

LONGEST_NAME = 8
LONGEST_STEM = 5
LETTERS = "abcdefghijklmnopqrstuvwxyz"
DIGITS = "0123456789"


def is_name(text):
    """Tell whether the string is a name [7]."""
    if not 1 <= len(text) <= LONGEST_NAME or text[0] not in LETTERS:
        return False
    return all([mark in LETTERS or mark in DIGITS for mark in text])


def valid_name(name):
    """Return the name; raise BadName if it is none."""
    if not is_name(name):
        raise BadName(name)
    return name


def is_number(value, low, high):
    """Tell whether the value is an integer from low to high; True and False are none [2]."""
    return isinstance(value, int) and not isinstance(value, bool) and low <= value <= high


def is_from_zero(value):
    """Tell whether the value is an integer from 0 on, of any size; True and False are none [2]."""
    return isinstance(value, int) and not isinstance(value, bool) and value >= 0


def valid_weight(weight):
    """Return the own weight [8]; raise BadWeight if it is none."""
    if not is_number(weight, 1, MOST_WEIGHT):
        raise BadWeight(weight)
    return weight


def ordered(names):
    """Return a list of the names, ascending, without duplicates."""
    for name in names:
        valid_name(name)
    return sorted(set(names))


def fresh_name(taken, *, stem="z"):
    """Return the stem with the least number that makes it a string that is not taken."""
    if not is_name(stem) or len(stem) > LONGEST_STEM:
        raise BadName(stem)
    number = 0
    while f"{stem}{number}" in taken:
        number += 1
    return f"{stem}{number}"


def lesser_first(first, second):
    """Return the deed of the two names as deeds are returned [21]."""
    if second < first:
        return second, first
    return first, second
