"""Texts of schemes and reports [80]."""

import itertools
import random
import re
import unittest

from checking import Checking, shown
from rolluplevels.errors import ReportError, SchemeError, TextError
from rolluplevels.stores import Store
from rolluplevels.texts import read_report, read_scheme, report_text, scheme_text
from samples import (
    CROSSED, DEEP, DOC_SCHEME, DOC_TABLE, FLAT, HUGE, KEPT, MANY_ROLLUPS, MIXED, SCHEMES, SINGLE, SIXTY, TRIPLE, broken,
    other_kinds, plain_cells, plain_rollups, plain_sums, several, tables,
)

NO_SCHEMES = [(), [(4, ())], ((7, ()),), ((4, ((False,) * 4,)),), ((4, ()),) * 3] + other_kinds()
SIGNS = " :=-012379\n+x_.,"

DOC_REPORT = (((1, 1), (1, 5, 1, 7)), ((2, 0), (2, 4, 8)))
SIGNED_REPORT = (((1, 1), (0, -5, 10, -70)), ((2, 1), (-9_999_999_999_999, 9_999_999_999_999)))

PLAIN_NUMBER = "(?:0|[1-9][0-9]*)"
SHORT_NUMBER = "(?:0|-?[1-9][0-9]{0,12})"
SCHEME_LINE = re.compile(f"{PLAIN_NUMBER}(?: : {PLAIN_NUMBER}(?: {PLAIN_NUMBER})*)*")
REPORT_LINE = re.compile(f"{SHORT_NUMBER}(?: {SHORT_NUMBER})* = {SHORT_NUMBER}(?: {SHORT_NUMBER})*")


def plain_digits(number):
    """The digits of a number, one by one."""
    if number < 0:
        return "-" + plain_digits(-number)
    digits = []
    while number > 9:
        digits.append("0123456789"[number % 10])
        number //= 10
    return "0123456789"[number] + "".join(reversed(digits))


def plain_words(numbers):
    return " ".join(plain_digits(number) for number in numbers)


def plain_scheme_text(scheme):
    text = ""
    for many, steps in scheme:
        text += plain_digits(many)
        for step in steps:
            text += " : " + plain_words(step)
        text += "\n"
    return text


def plain_report_text(report):
    return "".join(f"{plain_words(rollup)} = {plain_words(amounts)}\n" for rollup, amounts in report)


def plain_numbers(words):
    return tuple(int(word) for word in words.split(" "))


def plain_is_scheme(scheme):
    """Whether tuples of integers, in the form of a scheme, are one."""
    cells = 1
    for many, steps in scheme:
        cells *= many
        below = many
        for step in steps:
            groups = set(step)
            if len(step) != below or groups != set(range(len(groups))) or len(groups) >= below:
                return False
            below = len(groups)
        if not 1 <= many <= 6 or len(steps) > 3:
            return False
    return 1 <= len(scheme) <= 3 and cells <= 60


def plain_lines(text, form):
    """The lines of a text if each of them has the form and ends with a line feed, otherwise None."""
    *lines, rest = text.split("\n")
    return lines if rest == "" and all(form.fullmatch(line) for line in lines) else None


def plain_read_scheme(text):
    lines = plain_lines(text, SCHEME_LINE)
    if lines is None or len(text) > 500:
        return None
    parts = [line.split(" : ") for line in lines]
    scheme = tuple((int(many), tuple(plain_numbers(step) for step in steps)) for many, *steps in parts)
    return scheme if plain_is_scheme(scheme) else None


def plain_read_report(scheme, text):
    lines = plain_lines(text, REPORT_LINE)
    if lines is None or len(lines) > 6:
        return None
    report = tuple(tuple(plain_numbers(part) for part in line.split(" = ")) for line in lines)
    for rollup, amounts in report:
        if rollup not in plain_rollups(scheme) or len(amounts) != len(plain_cells(scheme, rollup)):
            return None
    return report


def one_sign_otherwise(text):
    for at in range(len(text) + 1):
        for sign in SIGNS:
            yield text[:at] + sign + text[at:]
            yield text[:at] + sign + text[at + 1:]
        yield text[:at] + text[at + 1:]
        yield text[:at] + text[at:at + 1] + text[at:]
        yield text[:at] + text[at:at + 2][::-1] + text[at + 2:]
        yield text[:at]
        yield text[at:]


def one_part_otherwise(text, mark, further):
    """The text with one part between the marks put in, left out, doubled or replaced, or moved."""
    parts = text.split(mark)
    for at in range(len(parts) + 1):
        for part in list(further) + parts:
            yield mark.join(parts[:at] + [part] + parts[at:])
            yield mark.join(parts[:at] + [part] + parts[at + 1:])
        yield mark.join(parts[:at] + parts[at + 1:])
        yield mark.join(parts[:at] + parts[at:at + 1] + parts[at:])
        yield mark.join(parts[:at] + parts[at:at + 2][::-1] + parts[at + 2:])


def otherwise(text):
    yield from one_sign_otherwise(text)
    words = ("", "0", "1", "6", "7", "-1", "-0", "00", "01", "x", ":", "=", " ", "9999999999999", "10000000000000")
    yield from one_part_otherwise(text, " ", words)
    yield from one_part_otherwise(text, "\n", ("", "1", "2 : 0 0", "1 1 = 1 5 1 7", "0 = 0", " ", ":", "="))


class SchemeTextTest(Checking):

    def assert_scheme(self, scheme, text):
        with self.subTest(shown(scheme)):
            self.assert_same(scheme_text(scheme), text)
            self.assert_same(read_scheme(text), scheme)

    def test_written_out(self):
        self.assert_scheme(DOC_SCHEME, "4 : 0 0 1 1 : 0 0\n3 : 0 1 1\n")
        self.assert_scheme(SINGLE, "1\n")
        self.assert_scheme(FLAT, "6\n")
        self.assert_scheme(DEEP, "6 : 0 1 2 3 1 0 : 2 0 1 0 : 1 0 1\n")
        self.assert_scheme(CROSSED, "3 : 1 0 1 : 0 0\n2\n")
        self.assert_scheme(TRIPLE, "2 : 0 0\n3\n4 : 1 1 0 2 : 0 1 0\n")
        self.assert_scheme(((1, ()),) * 3, "1\n1\n1\n")

    def test_samples(self):
        for scheme in SCHEMES + (MANY_ROLLUPS,):
            self.assert_scheme(scheme, plain_scheme_text(scheme))

    def test_all_attributes_of_few_values(self):
        for many in range(1, 5):
            for step in itertools.product(range(many), repeat=many):
                scheme = ((many, (step,)),)
                if plain_is_scheme(scheme):
                    self.assert_scheme(scheme, plain_scheme_text(scheme))
                else:
                    self.assert_raises_exactly(TextError, read_scheme, plain_scheme_text(scheme))

    def test_texts_that_are_otherwise(self):
        read = 0
        for scheme in (DOC_SCHEME, SINGLE, FLAT, DEEP, TRIPLE, ((2, ((0, 0),)), (1, ()), (2, ())), SIXTY):
            for text in otherwise(plain_scheme_text(scheme)):
                expected = plain_read_scheme(text)
                if expected is None:
                    self.assert_raises_exactly(TextError, read_scheme, text)
                else:
                    self.assert_scheme(expected, text)
                    read += 1
        self.assertGreater(read, 100)

    def test_no_scheme_has_this_text(self):
        for text in (
            "", "\n", "1", "1\n\n", "\n1\n", "1 \n", " 1\n", "1\n1\n1\n1\n", "0\n", "7\n", "-1\n", "01\n", "+1\n", "x\n",
            "1 :\n", "1 : \n", "1 : 0\n", "2 : 0 0 \n", "2 :  0 0\n", "2  : 0 0\n", "2: 0 0\n", "2 :0 0\n", "2 : 0  0\n",
            "2 : 0 0 :\n", "2 : 0 0 : \n", "2 : 0 0 : 0\n", "2 : 0 -0\n", "2 : 00 0\n", "2 : 0 1\n", "2 : 1 1\n",
            "3 : 0 1 2\n", "3 : 0 2 2\n", "3 : 0 1\n", "3 : 0 1 1 1\n", "4\n4\n4\n", "6\n6\n2\n", "2 = 0 0\n", "2\t: 0 0\n",
            "5 : 0 1 2 3 0 : 0 1 2 0 : 0 1 0 : 0 0\n", "2 : 0 0\r\n", "2 : 0 0\n ", "4 : 0 0 1 1 : 0 0\n3 : 0 1 1",
            "2 : 0 0\x0b", "9" * 5000 + "\n", "1" + "0" * 14 + "\n", "\u0661\n", "\u00b2\n", "\uff12 : 0 0\n", "1_0\n",
        ):
            with self.subTest(shown(text)):
                self.assert_raises_exactly(TextError, read_scheme, text)

    def test_no_text(self):
        for thing in other_kinds() + [list("1\n"), ("1\n",), SINGLE, 1, {"1\n": 0}]:
            if thing != "4 : 0 0 1 1 : 0 0\n":
                self.assert_raises_exactly(TextError, read_scheme, thing)

    def test_no_scheme(self):
        for thing in NO_SCHEMES:
            self.assert_raises_exactly(SchemeError, scheme_text, thing)

    def test_again(self):
        for scheme in SCHEMES:
            self.assert_unchanged(scheme_text, scheme)
            self.assert_unchanged(read_scheme, plain_scheme_text(scheme))


class ReportTextTest(Checking):

    def assert_report(self, scheme, report, text):
        with self.subTest(shown((scheme, report))):
            self.assert_same(report_text(scheme, report), text)
            self.assert_same(read_report(scheme, text), report)

    def test_written_out(self):
        self.assert_report(DOC_SCHEME, DOC_REPORT, "1 1 = 1 5 1 7\n2 0 = 2 4 8\n")
        self.assert_report(DOC_SCHEME, DOC_REPORT[:1] * 6, "1 1 = 1 5 1 7\n" * 6)
        self.assert_report(DOC_SCHEME, (((0, 0), DOC_TABLE),), "0 0 = 1 0 2 0 3 0 1 1 1 0 0 5\n")
        self.assert_report(SINGLE, (((0,), (-7,)),), "0 = -7\n")
        self.assert_report(
            DOC_SCHEME, SIGNED_REPORT, "1 1 = 0 -5 10 -70\n2 1 = -9999999999999 9999999999999\n",
        )
        self.assert_report(TRIPLE, (((1, 0, 2), (1, 2, 3, 4, 5, 6)),), "1 0 2 = 1 2 3 4 5 6\n")

    def test_an_empty_report(self):
        for scheme in SCHEMES:
            self.assert_report(scheme, (), "")

    def test_many_reports(self):
        chance = random.Random(33)
        for scheme in SCHEMES + (MANY_ROLLUPS,):
            for rollups in several(plain_rollups(scheme), 6, 34)[::5]:
                report = tuple((rollup, tuple(
                    chance.choice((0, 1, -1, 10, -10, 10 ** 12, 1 - 10 ** 13)) for cell in plain_cells(scheme, rollup)
                )) for rollup in rollups)
                self.assert_report(scheme, report, plain_report_text(report))

    def test_sums_of_any_length_are_written(self):
        for table in tables(DOC_SCHEME) + [(10 ** 4300, -10 ** 4300) * 6, (10 ** 60, 1 - 10 ** 60) * 6]:
            report = (((0, 0), table), ((1, 1), plain_sums(DOC_SCHEME, table, (1, 1))))
            self.assert_same(report_text(DOC_SCHEME, report), plain_report_text(report))

    def test_numbers_that_are_read(self):
        for word, number in (
            ("0", 0), ("7", 7), ("-7", -7), ("10", 10), ("-10", -10), ("9999999999999", 9_999_999_999_999),
            ("-9999999999999", -9_999_999_999_999), ("1000000000000", 10 ** 12), ("-1000000000000", -10 ** 12),
        ):
            self.assert_report(SINGLE, (((0,), (number,)),), f"0 = {word}\n")
            self.assert_report(FLAT, (((0,), (0, 0, number, 0, 0, 1)),), f"0 = 0 0 {word} 0 0 1\n")

    def test_words_that_are_no_numbers(self):
        for word in (
            "", "-", "--1", "-0", "+0", "+1", "00", "01", "-01", "-00", "1-", "1.0", "1e3", "1_0", "0x1", "x", "a1", ":",
            "=", "None", "True", "10000000000000", "-10000000000000", "9" * 14, "9" * 5000, "-" + "9" * 5000, "0" * 13,
            "- 1", "\t1", "1\t", "1\r", "\u0661", "\u00b2", "\uff11", "1\u00a0",
        ):
            for text in (f"0 = {word}\n", f"{word} = 0\n"):
                with self.subTest(shown(text)):
                    self.assert_raises_exactly(TextError, read_report, SINGLE, text)
            self.assert_raises_exactly(TextError, read_report, FLAT, f"0 = 0 0 {word} 0 0 1\n")

    def test_no_report_has_this_text(self):
        for text in (
            "\n", "0 = 1", "0 = 1\n\n", "\n0 = 1\n", "0 = 1 \n", " 0 = 1\n", "0  = 1\n", "0 =  1\n", "0= 1\n", "0 =1\n",
            "0=1\n", "0 1\n", "0\n", "0 = \n", " = 1\n", " = \n", "=\n", "0 = 1 = 1\n", "0 = 1 1\n", "0 0 = 1\n", "1 = 1\n",
            "-1 = 1\n", "0 : 1\n", "0 = 1\r\n", "0 = 1\n ", "0 = 1\n" * 7, "0 = 1\n0 = 1", "1\n",
        ):
            with self.subTest(shown(text)):
                self.assert_raises_exactly(TextError, read_report, SINGLE, text)

    def test_texts_that_are_otherwise(self):
        read = 0
        for scheme, report in (
            (DOC_SCHEME, DOC_REPORT), (DOC_SCHEME, SIGNED_REPORT), (SINGLE, (((0,), (10,)),)), (DOC_SCHEME, ()),
            (DEEP, (((1,), (-1, 10, 0, 2)),)), (TRIPLE, (((1, 0, 1), tuple(range(9))),)), (SINGLE, (((0,), (3,)),) * 6),
        ):
            for text in otherwise(plain_report_text(report)):
                expected = plain_read_report(scheme, text)
                if expected is None:
                    self.assert_raises_exactly(TextError, read_report, scheme, text)
                else:
                    self.assert_report(scheme, expected, text)
                    read += 1
        self.assertGreater(read, 100)

    def test_a_report_of_another_scheme(self):
        text = "1 1 = 1 5 1 7\n"
        for scheme in (SINGLE, DEEP, TRIPLE, KEPT, SIXTY, MIXED):
            if plain_read_report(scheme, text) is None:
                self.assert_raises_exactly(TextError, read_report, scheme, text)

    def test_no_text(self):
        for thing in other_kinds() + [list("0 = 1\n"), ("0 = 1\n",), (((0,), (1,)),), {"0 = 1\n": 0}]:
            if thing != "":
                self.assert_raises_exactly(TextError, read_report, SINGLE, thing)

    def test_exceptions(self):
        for thing in NO_SCHEMES:
            self.assert_raises_exactly(SchemeError, report_text, thing, DOC_REPORT)
            self.assert_raises_exactly(SchemeError, report_text, thing, None)
            self.assert_raises_exactly(SchemeError, read_report, thing, "1 1 = 1 5 1 7\n")
            self.assert_raises_exactly(SchemeError, read_report, thing, None)
            self.assert_raises_exactly(SchemeError, read_report, thing, "no text of a report")
        wrong = list(broken(DOC_REPORT)) + [DOC_REPORT[:1] * 7, [], None, ((1, 1), (1, 5, 1, 7))]
        for thing in wrong + [thing for thing in other_kinds() if thing != ()]:
            if thing != DOC_REPORT[:1] and thing != DOC_REPORT[1:] and thing != DOC_REPORT + DOC_REPORT[-1:]:
                self.assert_raises_exactly(ReportError, report_text, DOC_SCHEME, thing)
        self.assert_raises_exactly(ReportError, report_text, SINGLE, DOC_REPORT)

    def test_reports_of_stores(self):
        store = Store(DOC_SCHEME, *[(1, 1)] * 6)
        store.put((3, 2), -7)
        self.assert_report(DOC_SCHEME, store.report, "1 1 = 0 0 0 -7\n" * 6)
        store.keep((2, 1))
        self.assert_raises_exactly(ReportError, report_text, DOC_SCHEME, store.report)
        self.assert_raises_exactly(TextError, read_report, DOC_SCHEME, "1 1 = 0 0 0 -7\n" * 6 + "2 1 = 0 -7\n")

    def test_a_text_of_more_than_2000_signs(self):
        report = (((0, 0, 0), (-9_999_999_999_999,) * 60),) * 6
        self.assertGreater(len(plain_report_text(report)), 5000)
        self.assert_report(SIXTY, report, plain_report_text(report))

    def test_again(self):
        for report in (DOC_REPORT, SIGNED_REPORT, ()):
            self.assert_unchanged(report_text, DOC_SCHEME, report)
            self.assert_unchanged(read_report, DOC_SCHEME, plain_report_text(report))
        self.assert_unchanged(report_text, DOC_SCHEME, (((2, 1), (HUGE, -HUGE)),))


if __name__ == "__main__":
    unittest.main()
