"""Reported sums [50]."""

import itertools
import random
import unittest

from checking import Checking, shown
from rolluplevels.errors import ReportError, SchemeError
from rolluplevels.reports import clash, fill, shows_fill
from samples import (
    DEEP, DOC_SCHEME, DOC_TABLE, FLAT, HUGE, KEPT, MANY_ROLLUPS, SCHEMES, SINGLE, SIXTY, TRIPLE, broken,
    other_kinds, plain_cells, plain_coarser, plain_is_integer, plain_is_table, plain_rolled, plain_rollups,
    plain_sums, several, tables,
)

NO_SCHEMES = ((), [(4, ())], ((7, ()),), ((4, ((False,) * 4,)),), ((4, ()),) * 3)

# The sums of DOC_TABLE at these rollups.
AGREEING = (((1, 1), (1, 5, 1, 7)), ((2, 0), (2, 4, 8)))
# The sums at (2, 1) are (2, 12) of the first piece, and (2, 13) of the second.
CLASHING = (((1, 1), (1, 5, 1, 7)), ((2, 0), (2, 4, 9)))


def reported(scheme, table, rollups):
    return tuple((rollup, plain_sums(scheme, table, rollup)) for rollup in rollups)


def otherwise(report, place, at, by):
    """The report with one sum changed."""
    rollup, amounts = report[place]
    amounts = amounts[:at] + (amounts[at] + by,) + amounts[at + 1:]
    return report[:place] + ((rollup, amounts),) + report[place + 1:]


def disturbed(scheme, chance, report, many):
    """The report with so many sums changed, so that they may make up for each other."""
    for turn in range(many):
        place = chance.randrange(len(report))
        by = chance.choice((1, -1, 1, -1, 10 ** 13, HUGE))
        report = otherwise(report, place, chance.randrange(len(report[place][1])), by)
    return report


def plain_differences(scheme, one, other):
    """The cells at which two pieces differ."""
    common = plain_coarser(one[0], other[0])
    ones, others = plain_rolled(scheme, *one, common), plain_rolled(scheme, *other, common)
    return [cell for cell, a, b in zip(plain_cells(scheme, common), ones, others) if a != b]


def plain_clash(scheme, report):
    found = []
    for first, second in itertools.combinations(range(len(report)), 2):
        cells = plain_differences(scheme, report[first], report[second])
        if cells:
            found.append((second, first, cells[0]))
    if not found:
        return None
    second, first, cell = min(found)
    return (first, second, cell)


def plain_has_all_sums(scheme, report, table):
    return all(plain_sums(scheme, table, rollup) == amounts for rollup, amounts in report)


def some_reports(scheme, seed):
    """Reports of tables, and ones that are none of any table, of up to six pieces."""
    chance = random.Random(seed)
    for rollups in several(plain_rollups(scheme), 6, seed)[::4]:
        report = reported(scheme, chance.choice(tables(scheme)), rollups)
        yield report
        if report:
            yield disturbed(scheme, chance, report, 1)
            yield disturbed(scheme, chance, report, 2)


class ClashTest(Checking):

    def assert_clash(self, scheme, report, expected):
        with self.subTest(shown((scheme, report))):
            self.assert_same(clash(scheme, report), expected)

    def test_written_out(self):
        self.assert_clash(DOC_SCHEME, AGREEING, None)
        self.assert_clash(DOC_SCHEME, CLASHING, (0, 1, (0, 1)))
        self.assert_clash(DOC_SCHEME, (((1, 1), (1, 5, 1, 7)), ((2, 0), (3, 4, 9))), (0, 1, (0, 0)))
        self.assert_clash(DOC_SCHEME, (((1, 1), (1, 5, 1, 7)), ((0, 1), (1, 2, 0, 3, 1, 2, 0, 6))), (0, 1, (1, 1)))

    def test_no_piece_and_one_piece(self):
        self.assert_clash(DOC_SCHEME, (), None)
        self.assert_clash(SINGLE, (), None)
        self.assert_clash(DOC_SCHEME, (((1, 1), (9, -9, HUGE, 0)),), None)
        self.assert_clash(DOC_SCHEME, (((0, 0), DOC_TABLE),), None)

    def test_the_same_rollup_several_times(self):
        piece, changed = ((1, 1), (1, 5, 1, 7)), ((1, 1), (1, 5, 2, 6))
        self.assert_clash(DOC_SCHEME, (piece,) * 6, None)
        self.assert_clash(DOC_SCHEME, (piece, changed), (0, 1, (1, 0)))
        self.assert_clash(DOC_SCHEME, (piece, piece, piece, changed, piece), (0, 3, (1, 0)))
        self.assert_clash(SINGLE, (((0,), (5,)), ((0,), (6,))), (0, 1, (0,)))

    def test_the_second_is_as_small_as_possible(self):
        low, high = ((2, 1), (2, 12)), ((2, 1), (2, 13))
        self.assert_clash(DOC_SCHEME, (low, low, high, high), (0, 2, (0, 1)))
        self.assert_clash(DOC_SCHEME, (low, high, high, low), (0, 1, (0, 1)))
        # The total agrees with both of the others, which do not agree with each other.
        scheme = ((2, ((0, 0),)), (2, ((0, 0),)))
        one, total, other = ((0, 1), (1, 1)), ((1, 1), (2,)), ((0, 1), (0, 2))
        self.assert_clash(scheme, (total, one, other), (1, 2, (0, 0)))
        self.assert_clash(scheme, (one, total, other), (0, 2, (0, 0)))
        self.assert_clash(scheme, (one, total, ((1, 1), (3,)), other), (0, 2, (0, 0)))

    def test_then_the_first(self):
        scheme = ((2, ((0, 0),)), (2, ((0, 0),)))
        rows, columns, total = ((0, 1), (1, 1)), ((1, 0), (0, 2)), ((1, 1), (2,))
        self.assert_clash(scheme, (rows, columns, total), None)
        self.assert_clash(scheme, (rows, columns, total, ((1, 0), (1, 1))), (1, 3, (0, 0)))
        self.assert_clash(scheme, (rows, columns, total, ((1, 0), (1, 2))), (0, 3, (0, 0)))

    def test_a_difference_that_no_coarser_rollup_shows(self):
        report = (((1, 1), (1, 5, 1, 7)), ((2, 0), (2, 5, 7)), ((0, 0), DOC_TABLE))
        self.assert_clash(DOC_SCHEME, report[:2], None)
        self.assert_clash(DOC_SCHEME, report, (1, 2, (0, 1)))

    def test_great_sums(self):
        great = 10 ** 40
        report = (((1, 1), (great, -great, 0, great)), ((2, 0), (great, 1, -1)))
        self.assert_clash(DOC_SCHEME, report, None)
        self.assert_clash(DOC_SCHEME, otherwise(report, 1, 2, 1), (0, 1, (0, 1)))
        report = (((1, 1), (HUGE, HUGE, 0, 0)), ((2, 0), (HUGE, HUGE, 1)))
        self.assert_clash(DOC_SCHEME, report, (0, 1, (0, 1)))
        self.assert_clash(DOC_SCHEME, otherwise(report, 0, 3, 1), None)

    def test_many_reports(self):
        for scheme in SCHEMES:
            for report in some_reports(scheme, 11):
                self.assert_same(clash(scheme, report), plain_clash(scheme, report))

    def test_all_small_pieces(self):
        scheme = ((2, ((0, 0),)), (2, ((0, 0),)))
        pieces = [((0, 1), amounts) for amounts in itertools.product((0, 1), repeat=2)]
        pieces += [((1, 0), amounts) for amounts in itertools.product((0, 1), repeat=2)]
        pieces += [((1, 1), (amount,)) for amount in (0, 1, 2)]
        pieces += [((0, 0), amounts) for amounts in itertools.product((0, 1), repeat=4)][::3]
        for report in itertools.product(pieces, repeat=3):
            self.assert_same(clash(scheme, report), plain_clash(scheme, report))

    def test_arguments_are_not_modified(self):
        self.assert_unchanged(clash, DOC_SCHEME, AGREEING)
        self.assert_unchanged(clash, DOC_SCHEME, CLASHING)


class FillTest(Checking):

    def assert_fill(self, scheme, report):
        """The result is a table with all sums, or what clash must tell."""
        with self.subTest(shown((scheme, report))):
            found = fill(scheme, report)
            expected = plain_clash(scheme, report)
            if expected is not None:
                self.assert_same(found, ("clash", *expected))
                return
            self.assertIs(type(found), tuple)
            word, table = found
            self.assert_same(word, "table")
            self.assertTrue(plain_is_table(scheme, table))
            for rollup, amounts in report:
                self.assert_same(plain_sums(scheme, table, rollup), amounts)

    def test_written_out(self):
        self.assert_fill(DOC_SCHEME, AGREEING)
        self.assert_same(fill(DOC_SCHEME, CLASHING), ("clash", 0, 1, (0, 1)))
        self.assert_same(fill(DOC_SCHEME, (((0, 0), DOC_TABLE),)), ("table", DOC_TABLE))
        self.assert_same(fill(SINGLE, (((0,), (-7,)),)), ("table", (-7,)))

    def test_no_piece_and_one_piece(self):
        for scheme in SCHEMES + (MANY_ROLLUPS,):
            self.assert_fill(scheme, ())
            for rollup in plain_rollups(scheme):
                length = len(plain_cells(scheme, rollup))
                self.assert_fill(scheme, ((rollup, tuple(range(-3, length - 3))),))
                self.assert_fill(scheme, ((rollup, (HUGE,) * length),))

    def test_the_finest_rollup_among_the_pieces(self):
        for scheme in SCHEMES:
            finest = (0,) * len(scheme)
            for table in tables(scheme):
                for rollups in several(plain_rollups(scheme), 5, 12)[::7]:
                    for at in range(len(rollups) + 1):
                        report = reported(scheme, table, rollups[:at] + (finest,) + rollups[at:])
                        self.assert_same(fill(scheme, report), ("table", table))

    def test_amounts_below_0(self):
        # Of two rows and two columns, with amounts from 0 on, no table would have these sums.
        scheme = ((2, ((0, 0),)), (2, ((0, 0),)))
        self.assert_fill(scheme, (((0, 1), (1, -1)), ((1, 0), (-5, 5)), ((1, 1), (0,))))
        self.assert_fill(scheme, (((0, 1), (-1, -1)), ((1, 0), (-2, 0))))

    def test_all_pairs_of_a_table(self):
        for scheme in SCHEMES:
            table = tables(scheme)[2]
            for rollups in itertools.permutations(plain_rollups(scheme), 2):
                self.assert_fill(scheme, reported(scheme, table, rollups))

    def test_many_reports(self):
        for scheme in SCHEMES:
            for report in some_reports(scheme, 13):
                self.assert_fill(scheme, report)

    def test_many_rollups(self):
        for report in itertools.islice(some_reports(MANY_ROLLUPS, 14), 1400, None, 2):
            self.assert_fill(MANY_ROLLUPS, report)

    def test_six_pieces_of_which_none_is_as_fine_as_another(self):
        rollups = [rollup for rollup in plain_rollups(MANY_ROLLUPS) if sum(rollup) == 4][:6]
        for table in tables(MANY_ROLLUPS):
            self.assert_fill(MANY_ROLLUPS, reported(MANY_ROLLUPS, table, rollups))
            self.assert_fill(MANY_ROLLUPS, reported(MANY_ROLLUPS, table, rollups[::-1]))

    def test_sums_of_more_than_13_digits(self):
        for number in (10 ** 13, -10 ** 14 + 1, 10 ** 40 + 7, HUGE):
            table = tuple(number * at - at for at in range(60))
            report = reported(SIXTY, table, ((2, 1, 0), (1, 2, 0), (0, 2, 0)))
            self.assert_fill(SIXTY, report)
            self.assert_fill(SIXTY, otherwise(report, 1, 0, 1))

    def test_all_small_pieces(self):
        scheme = ((2, ((0, 0),)), (2, ((0, 0),)))
        pieces = [((0, 1), amounts) for amounts in itertools.product((-1, 1), repeat=2)]
        pieces += [((1, 0), amounts) for amounts in itertools.product((-1, 1), repeat=2)]
        pieces += [((1, 1), (amount,)) for amount in (-2, 0, 2)]
        for report in itertools.product(pieces, repeat=3):
            self.assert_fill(scheme, report)

    def test_arguments_are_not_modified(self):
        self.assert_unchanged(fill, DOC_SCHEME, AGREEING)
        self.assert_unchanged(fill, DOC_SCHEME, CLASHING)


class ShowsFillTest(Checking):

    def assert_shows(self, scheme, report, thing, expected):
        with self.subTest(shown((scheme, report, thing))):
            self.assertIs(shows_fill(scheme, report, thing), expected)

    def test_what_fill_returns(self):
        for scheme in SCHEMES:
            for report in list(some_reports(scheme, 15))[::2]:
                self.assert_shows(scheme, report, fill(scheme, report), True)

    def test_any_table_with_the_sums(self):
        self.assert_shows(DOC_SCHEME, AGREEING, ("table", DOC_TABLE), True)
        self.assert_shows(DOC_SCHEME, (), ("table", DOC_TABLE), True)
        for scheme in SCHEMES:
            for table in tables(scheme):
                for rollups in several(plain_rollups(scheme), 6, 16)[::9]:
                    self.assert_shows(scheme, reported(scheme, table, rollups), ("table", table), True)

    def test_tables_with_one_amount_otherwise(self):
        for at in range(12):
            for by in (1, -1, HUGE):
                table = DOC_TABLE[:at] + (DOC_TABLE[at] + by,) + DOC_TABLE[at + 1:]
                self.assert_shows(DOC_SCHEME, AGREEING, ("table", table), False)
                self.assert_shows(DOC_SCHEME, (), ("table", table), True)

    def test_tables_with_two_amounts_otherwise(self):
        for up, down in itertools.permutations(range(12), 2):
            table = tuple(amount + (at == up) - (at == down) for at, amount in enumerate(DOC_TABLE))
            expected = plain_has_all_sums(DOC_SCHEME, AGREEING, table)
            self.assert_shows(DOC_SCHEME, AGREEING, ("table", table), expected)

    def test_no_table_of_pieces_that_clash(self):
        self.assert_shows(DOC_SCHEME, CLASHING, ("table", DOC_TABLE), False)
        for at in range(12):
            table = DOC_TABLE[:at] + (DOC_TABLE[at] + 1,) + DOC_TABLE[at + 1:]
            self.assert_shows(DOC_SCHEME, CLASHING, ("table", table), False)

    def test_any_positions_and_cells(self):
        report = (
            ((1, 1), (1, 5, 1, 7)), ((2, 0), (3, 4, 9)), ((1, 1), (0, 5, 1, 8)), ((0, 0), DOC_TABLE), ((2, 1), (2, 12)),
        )
        cells = list(itertools.product(range(-1, 5), repeat=2)) + [(), (0,), (0, 0, 0)]
        shown_places = 0
        for first, second in itertools.product(range(-1, 7), repeat=2):
            right = []
            if first in range(5) and second in range(5):
                right = plain_differences(DOC_SCHEME, report[first], report[second])
            shown_places += bool(right)
            for cell in cells:
                self.assert_shows(DOC_SCHEME, report, ("clash", first, second, cell), cell in right)
        self.assertEqual(shown_places, 14)

    def test_any_order(self):
        self.assert_shows(DOC_SCHEME, CLASHING, ("clash", 0, 1, (0, 1)), True)
        self.assert_shows(DOC_SCHEME, CLASHING, ("clash", 1, 0, (0, 1)), True)
        self.assert_shows(DOC_SCHEME, CLASHING, ("clash", 0, 0, (0, 1)), False)
        self.assert_shows(DOC_SCHEME, CLASHING, ("clash", 1, 1, (0, 1)), False)
        self.assert_shows(DOC_SCHEME, CLASHING, ("clash", 0, 1, (0, 0)), False)
        self.assert_shows(DOC_SCHEME, CLASHING, ("clash", 0, -1, (0, 1)), False)
        self.assert_shows(DOC_SCHEME, CLASHING, ("clash", 0, HUGE, (0, 1)), False)

    def test_no_clash_of_pieces_that_agree(self):
        for first, second in itertools.product(range(-1, 3), repeat=2):
            for cell in plain_cells(DOC_SCHEME, (0, 0)):
                self.assert_shows(DOC_SCHEME, AGREEING, ("clash", first, second, cell), False)

    def test_one_part_otherwise(self):
        for scheme, report in (
            (DOC_SCHEME, AGREEING), (DOC_SCHEME, CLASHING), (DOC_SCHEME, ()), (SINGLE, (((0,), (1,)),)),
            (SINGLE, (((0,), (1,)), ((0,), (0,)))), (KEPT, reported(KEPT, (1,) * 10, ((1, 0), (0, 1)))),
        ):
            for thing in broken(fill(scheme, report)):
                self.assert_shows(scheme, report, thing, False)

    def test_a_bool_in_a_clash(self):
        report = (((0,), (0, 0, 0, 0, 0, 0)), ((0,), (1, 1, 0, 0, 0, 0)))
        self.assert_shows(FLAT, report, ("clash", 0, 1, (0,)), True)
        self.assert_shows(FLAT, report, ("clash", 0, 1, (1,)), True)
        for thing in ((False, 1, (0,)), (0, True, (0,)), (0, 1, (False,)), (0, 1, (True,)), (True, 0, (1,))):
            self.assert_shows(FLAT, report, ("clash", *thing), False)

    def test_any_value(self):
        for thing in other_kinds():
            for report in (AGREEING, CLASHING, ()):
                for wrapped in (thing, ("table", thing), (thing, DOC_TABLE), ("clash", thing, 1, (0, 1)),
                                ("clash", 0, thing, (0, 1)), ("clash", 0, 1, thing), (thing, 0, 1, (0, 1))):
                    expected = report == CLASHING and self.is_right_clash(wrapped)
                    self.assert_shows(DOC_SCHEME, report, wrapped, expected)

    def is_right_clash(self, thing):
        """Whether it is one of the two values that show the clash of CLASHING."""
        if type(thing) is not tuple or len(thing) != 4 or not all(map(plain_is_integer, thing[1:3])):
            return False
        return thing in (("clash", 0, 1, (0, 1)), ("clash", 1, 0, (0, 1)))

    def test_other_words(self):
        for word in ("Table", "tables", "table ", "", "clash", None, ("table",)):
            self.assert_shows(SINGLE, (), (word, (1,)), False)
        for word in ("Clash", "clashes", "clash\n", "", "table", None, ["clash"]):
            self.assert_shows(DOC_SCHEME, CLASHING, (word, 0, 1, (0, 1)), False)

    def test_arguments_are_not_modified(self):
        for thing in other_kinds() + [("table", DOC_TABLE), ("clash", 0, 1, (0, 1)), ("table", list(DOC_TABLE))]:
            self.assert_unchanged(shows_fill, DOC_SCHEME, AGREEING, thing)
            self.assert_unchanged(shows_fill, DOC_SCHEME, CLASHING, thing)


class ReportExceptionsTest(Checking):

    def each_function(self):
        """The functions, the last one with right and wrong values to be checked."""
        yield clash
        yield fill
        for thing in (("table", DOC_TABLE), ("clash", 0, 1, (0, 1)), None, [[]]):
            yield lambda scheme, report, thing=thing: shows_fill(scheme, report, thing)

    def wrong_reports(self):
        right = ((1, 1), (1, 5, 1, 7))
        pieces = list(broken(right)) + [
            ((3, 0), (1,)), ((0, 2), (1,) * 12), ((-1, 0), (1,)), ((HUGE, 0), (1,)), ((1, 1), (1, 5, 1)),
            ((1, 1), DOC_TABLE), ((1, 1), ((1, 5), (1, 7))), ((1, 1), {0: 1, 1: 5, 2: 1, 3: 7}), ((1, 1), "1517"),
            ((1, 5, 1, 7), (1, 1)), ((1,), (1, 5)), ((1, 1, 0), (1, 5, 1, 7)), (1, 1, 1, 5, 1, 7),
        ]
        for piece in pieces:
            yield (piece,)
            yield (right, piece)
            yield (piece, right, right)
        yield from ([right], [], {}, {0: right}, right, ((right,),), (right,) * 7, ("",))
        # An empty report is the only value of these kinds that is right.
        yield from (thing for thing in other_kinds() if thing != ())

    def test_exceptions(self):
        for function in self.each_function():
            for thing in list(NO_SCHEMES) + other_kinds():
                self.assert_raises_exactly(SchemeError, function, thing, AGREEING)
                self.assert_raises_exactly(SchemeError, function, thing, None)
            for thing in self.wrong_reports():
                self.assert_raises_exactly(ReportError, function, DOC_SCHEME, thing)

    def test_up_to_six_pieces(self):
        for function in self.each_function():
            for many in range(7):
                function(DOC_SCHEME, AGREEING[:1] * many)
            for many in (7, 8, 800):
                self.assert_raises_exactly(ReportError, function, DOC_SCHEME, AGREEING[:1] * many)

    def test_a_report_of_another_scheme(self):
        for function in self.each_function():
            self.assert_raises_exactly(ReportError, function, DEEP, AGREEING)
            self.assert_raises_exactly(ReportError, function, TRIPLE, AGREEING)
            self.assert_raises_exactly(ReportError, function, DEEP, (((1,), (1, 2, 3)),))
            function(DEEP, (((1,), (1, 2, 3, 4)),))

    def test_wrong_pieces_behind_a_clash(self):
        for function in self.each_function():
            self.assert_raises_exactly(ReportError, function, DOC_SCHEME, CLASHING + (((1, 1), (1, 5, 1)),))


if __name__ == "__main__":
    unittest.main()
