"""Schemes and reports as texts, written and read."""

from rolluplevels.errors import TextError
from rolluplevels.reports import check_report_of, is_report
from rolluplevels.schemes import check_scheme, is_scheme
from rolluplevels.values import written

MOST_DIGITS = 13


def number_of(word):
    """The number that is written so; None if this is not how one is written."""
    digits = word[1:] if word.startswith("-") else word
    if not digits.isascii() or not digits.isdigit() or len(digits) > MOST_DIGITS:
        return None
    if digits.startswith("0") and word != "0":
        return None
    return int(word)


def numbers_of(part):
    """The numbers that are written with single spaces between them; None in the place of what is none."""
    return tuple([number_of(word) for word in part.split(" ")])


def text_of(numbers):
    """The numbers, with single spaces between them."""
    return " ".join([written(number) for number in numbers])


def lines_of(text):
    """The lines of a text, each of which must end with a line feed."""
    if not isinstance(text, str):
        raise TextError("this is no text")
    lines = text.split("\n")
    if lines[-1] != "":
        raise TextError("the last line does not end with a line feed")
    return lines[:-1]


def attribute_of(line):
    """The attribute that is written so, with None in the place of what is no number."""
    first, *steps = line.split(" : ")
    return (number_of(first), tuple([numbers_of(step) for step in steps]))


def attribute_line(attribute):
    """The line for an attribute."""
    many, steps = attribute
    return " : ".join([text_of(numbers) for numbers in ((many,), *steps)])


def scheme_text(scheme):
    """The text of a scheme."""
    check_scheme(scheme)
    return "".join([f"{attribute_line(attribute)}\n" for attribute in scheme])


def read_scheme(text):
    """The scheme that has this text."""
    scheme = tuple([attribute_of(line) for line in lines_of(text)])
    if not is_scheme(scheme):
        raise TextError("this is not the text of a scheme")
    return scheme


def report_text(scheme, report):
    """The text of a report."""
    check_report_of(scheme, report)
    return "".join([f"{text_of(rollup)} = {text_of(amounts)}\n" for rollup, amounts in report])


def read_report(scheme, text):
    """The report of the scheme that has this text."""
    check_scheme(scheme)
    report = tuple([tuple([numbers_of(part) for part in line.split(" = ")]) for line in lines_of(text)])
    if not is_report(scheme, report):
        raise TextError("this is not the text of a report of the scheme")
    return report
