"""Integers, tuples of integers and tuples that a word begins, told from any other value; numbers written out."""

PART_DIGITS = 60
PART = 10 ** 60


def is_integer(thing):
    """Whether thing is an integer; for Python a bool is an int, here it is none."""
    return isinstance(thing, int) and thing is not True and thing is not False


def is_number_below(thing, limit):
    """Whether thing is one of the integers from 0 on that are below the limit."""
    return is_integer(thing) and 0 <= thing < limit


def is_number_from(thing, least, most):
    """Whether thing is an integer within the limits."""
    return is_integer(thing) and least <= thing <= most


# The loops below ask each part by themselves whether it is an integer, and stop at the first that is none: they
# are what takes most of the time where arguments are checked.


def are_integers(thing, many):
    """Whether thing is a tuple of so many integers."""
    if not isinstance(thing, tuple) or len(thing) != many:
        return False
    for part in thing:
        if not isinstance(part, int) or part is True or part is False:
            return False
    return True


def are_numbers_below(thing, limits):
    """Whether thing is a tuple with a number for each of the limits, from 0 on and below it."""
    if not isinstance(thing, tuple) or len(thing) != len(limits):
        return False
    for part, limit in zip(thing, limits):
        if not isinstance(part, int) or part is True or part is False or not 0 <= part < limit:
            return False
    return True


def is_told(thing, word, many):
    """Whether thing is a tuple of so many parts, at least one, with the word as the first of them."""
    if not isinstance(thing, tuple) or len(thing) != many:
        return False
    return isinstance(thing[0], str) and thing[0] == word


def written(number):
    """The digits of an integer of any size, with a sign where it is below 0."""
    if -PART < number < PART:
        return str(number)
    # Python refuses to write out integers of some thousand digits at once: so they are written part by part.
    parts = []
    rest = abs(number)
    while rest > 0:
        rest, part = divmod(rest, PART)
        parts.append(str(part).zfill(PART_DIGITS))
    digits = "".join(parts[::-1]).lstrip("0")
    return digits if number > 0 else f"-{digits}"
