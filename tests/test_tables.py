"""Tables and sums [20], and the session of [1] as far as it shows sums."""

import itertools
import unittest

from checking import Checking, shown
from rolluplevels.errors import OrderError, RollupError, SchemeError, SumsError, TableError
from rolluplevels.tables import is_table, rolled, sums
from samples import (
    DEEP, DOC_SCHEME, DOC_TABLE, FLAT, HUGE, SCHEMES, SINGLE, SIXTY, TRIPLE, other_kinds, plain_cells, plain_fine,
    plain_rollups, plain_sums, table_length, tables,
)

NO_SCHEMES = ((), [(4, ())], ((4, ((0, 0, 1, 2), (0, 2, 2))),), ((4, ((False,) * 4,)),), ((4, ()),) * 3)

# None of these is twelve integers, as a table of the document's scheme is.
WRONG_TABLES = (
    (), DOC_TABLE[:-1], DOC_TABLE + (0,), list(DOC_TABLE), DOC_TABLE[:-1] + (True,), (False,) + DOC_TABLE[1:],
    DOC_TABLE[:-1] + ("5",), DOC_TABLE[:-1] + (None,), DOC_TABLE[:-1] + ((5,),), DOC_TABLE[:-1] + ([5],),
    (DOC_TABLE,), tuple(DOC_TABLE[at:at + 3] for at in (0, 3, 6, 9)), {at: 0 for at in range(12)}, "102030111005",
)


class IsTableTest(Checking):

    def test_tables_of_the_samples(self):
        for scheme in SCHEMES:
            for table in tables(scheme):
                self.assertIs(is_table(scheme, table), True)

    def test_length(self):
        for scheme in SCHEMES:
            length = table_length(scheme)
            for many in range(65):
                self.assertIs(is_table(scheme, (0,) * many), many == length)

    def test_amounts_of_any_size(self):
        for amount in (0, -1, 9_999_999_999_999, -9_999_999_999_999, HUGE, -HUGE):
            self.assertIs(is_table(SINGLE, (amount,)), True)
            self.assertIs(is_table(FLAT, (0, 1, 2, 3, 4, amount)), True)

    def test_wrong_tables(self):
        for thing in list(WRONG_TABLES) + other_kinds():
            with self.subTest(shown(thing)):
                self.assertIs(is_table(DOC_SCHEME, thing), False)

    def test_a_single_amount_of_any_kind(self):
        for thing in other_kinds():
            with self.subTest(shown(thing)):
                self.assertIs(is_table(SINGLE, (thing,)), type(thing) is int)
                self.assertIs(is_table(FLAT, (0, 0, 0, thing, 0, 0)), type(thing) is int)

    def test_arguments_are_not_modified(self):
        for thing in list(WRONG_TABLES) + other_kinds() + [DOC_TABLE]:
            self.assert_unchanged(is_table, DOC_SCHEME, thing)

    def test_no_scheme(self):
        for thing in list(NO_SCHEMES) + other_kinds():
            self.assert_raises_exactly(SchemeError, is_table, thing, DOC_TABLE)
            self.assert_raises_exactly(SchemeError, is_table, thing, None)


class SumsTest(Checking):

    def test_of_the_document(self):
        self.assert_same(sums(DOC_SCHEME, DOC_TABLE, (1, 1)), (1, 5, 1, 7))

    def test_of_the_documents_tables_that_cannot_be_told_apart(self):
        one, other = (0, 1, 0, 0, 0, 0, 0, 0, 1, 0, 0, 0), (0, 0, 1, 0, 0, 0, 0, 1, 0, 0, 0, 0)
        for rollup in ((1, 1), (2, 0)):
            self.assert_same(sums(DOC_SCHEME, one, rollup), sums(DOC_SCHEME, other, rollup))
        self.assert_same(sums(DOC_SCHEME, one, (1, 0)), (0, 1, 0, 0, 0, 1))
        self.assert_same(sums(DOC_SCHEME, other, (1, 0)), (0, 0, 1, 0, 1, 0))

    def test_of_a_table_written_out(self):
        table = (1, -10, 100, -1000, 10000, -100000)
        self.assert_same(sums(DEEP, table, (1,)), (-99999, 9990, 100, -1000))
        self.assert_same(sums(DEEP, table, (2,)), (8990, 100, -99999))
        self.assert_same(sums(DEEP, table, (3,)), (100, -91009))

    def test_at_the_finest_rollup(self):
        for scheme in SCHEMES:
            for table in tables(scheme):
                self.assert_same(sums(scheme, table, (0,) * len(scheme)), table)

    def test_at_all_rollups(self):
        for scheme in SCHEMES:
            for table, rollup in itertools.product(tables(scheme), plain_rollups(scheme)):
                self.assert_same(sums(scheme, table, rollup), plain_sums(scheme, table, rollup))

    def test_great_amounts(self):
        self.assert_same(sums(DOC_SCHEME, (HUGE,) * 12, (2, 1)), (4 * HUGE, 8 * HUGE))
        self.assert_same(sums(DOC_SCHEME, (HUGE, -HUGE) * 6, (2, 1)), (0, 0))

    def test_arguments_are_not_modified(self):
        for rollup in plain_rollups(DOC_SCHEME):
            self.assert_unchanged(sums, DOC_SCHEME, DOC_TABLE, rollup)

    def test_exceptions(self):
        for thing in list(NO_SCHEMES) + other_kinds():
            self.assert_raises_exactly(SchemeError, sums, thing, DOC_TABLE, (1, 1))
        for thing in list(WRONG_TABLES) + other_kinds():
            self.assert_raises_exactly(TableError, sums, DOC_SCHEME, thing, (1, 1))
        for thing in other_kinds() + [(3, 0), (0, 2), (-1, 0), (1,), (1, 1, 0), (1, True), [1, 1]]:
            self.assert_raises_exactly(RollupError, sums, DOC_SCHEME, DOC_TABLE, thing)

    def test_the_first_of_several_exceptions(self):
        self.assert_raises_exactly(SchemeError, sums, None, None, None)
        self.assert_raises_exactly(SchemeError, sums, None, DOC_TABLE, None)
        self.assert_raises_exactly(TableError, sums, DOC_SCHEME, None, None)
        self.assert_raises_exactly(TableError, sums, DOC_SCHEME, DOC_TABLE + (0,), (3, 3))


class RolledTest(Checking):

    def test_of_the_document(self):
        self.assert_same(rolled(DOC_SCHEME, (1, 1), (1, 5, 1, 7), (2, 1)), (2, 12))
        self.assert_same(rolled(DOC_SCHEME, (0, 0), DOC_TABLE, (1, 1)), (1, 5, 1, 7))

    def test_a_rollup_and_itself(self):
        self.assert_same(rolled(DOC_SCHEME, (1, 1), (1, -5, 0, HUGE), (1, 1)), (1, -5, 0, HUGE))
        self.assert_same(rolled(SINGLE, (0,), (-3,), (0,)), (-3,))

    def test_of_three_attributes(self):
        # At (0, 0, 2) of TRIPLE there are two, three and two groups, at (1, 0, 2) one, three and two.
        amounts = tuple(range(12))
        self.assert_same(rolled(TRIPLE, (0, 0, 2), amounts, (1, 0, 2)), (6, 8, 10, 12, 14, 16))

    def test_it_is_the_sums_of_the_table_for_all_pairs(self):
        for scheme in SCHEMES:
            for table in tables(scheme):
                known = {rollup: plain_sums(scheme, table, rollup) for rollup in plain_rollups(scheme)}
                for one, other in itertools.product(known, repeat=2):
                    if plain_fine(one, other):
                        self.assert_same(rolled(scheme, one, known[one], other), known[other])

    def test_results_may_be_passed_back(self):
        table = tables(SIXTY)[-1]
        middle = sums(SIXTY, table, (1, 1, 0))
        self.assert_same(rolled(SIXTY, (1, 1, 0), middle, (2, 2, 0)), plain_sums(SIXTY, table, (2, 2, 0)))

    def test_arguments_are_not_modified(self):
        self.assert_unchanged(rolled, DOC_SCHEME, (1, 1), (1, 5, 1, 7), (2, 1))

    def test_wrong_schemes_and_rollups(self):
        for thing in list(NO_SCHEMES) + other_kinds():
            self.assert_raises_exactly(SchemeError, rolled, thing, (1, 1), (1, 5, 1, 7), (2, 1))
        for thing in other_kinds() + [(3, 0), (0, 2), (-1, 0), (1,), (1, 1, 0), (1, True), [1, 1]]:
            self.assert_raises_exactly(RollupError, rolled, DOC_SCHEME, thing, (1, 5, 1, 7), (2, 1))
            self.assert_raises_exactly(RollupError, rolled, DOC_SCHEME, (1, 1), (1, 5, 1, 7), thing)

    def test_wrong_amounts(self):
        wrong = other_kinds() + [
            (), (1, 5, 1), (1, 5, 1, 7, 0), [1, 5, 1, 7], (1, 5, True, 7), (1, 5, 1, False), (1, 5, 1, None),
            (1, 5, 1, "7"), (1, 5, 1, (7,)), ((1, 5), (1, 7)), DOC_TABLE,
        ]
        for thing in wrong:
            self.assert_raises_exactly(SumsError, rolled, DOC_SCHEME, (1, 1), thing, (2, 1))

    def test_amounts_of_another_rollup(self):
        for scheme in SCHEMES:
            for one, other in itertools.product(plain_rollups(scheme), repeat=2):
                amounts = (1,) * len(plain_cells(scheme, other))
                if len(amounts) != len(plain_cells(scheme, one)):
                    self.assert_raises_exactly(SumsError, rolled, scheme, one, amounts, one)

    def test_wrong_order(self):
        for scheme in SCHEMES:
            for one, other in itertools.product(plain_rollups(scheme), repeat=2):
                amounts = (1,) * len(plain_cells(scheme, one))
                if not plain_fine(one, other):
                    self.assert_raises_exactly(OrderError, rolled, scheme, one, amounts, other)

    def test_the_first_of_several_exceptions(self):
        self.assert_raises_exactly(SchemeError, rolled, None, None, None, None)
        self.assert_raises_exactly(RollupError, rolled, DOC_SCHEME, None, None, None)
        self.assert_raises_exactly(RollupError, rolled, DOC_SCHEME, (3, 0), (1,), (0, 0))
        self.assert_raises_exactly(SumsError, rolled, DOC_SCHEME, (1, 1), None, None)
        self.assert_raises_exactly(SumsError, rolled, DOC_SCHEME, (1, 1), (1, 5, 1), (3, 0))
        self.assert_raises_exactly(SumsError, rolled, DOC_SCHEME, (1, 1), (1, 5, 1), (0, 0))
        self.assert_raises_exactly(RollupError, rolled, DOC_SCHEME, (1, 1), (1, 5, 1, 7), (0, 2))
        self.assert_raises_exactly(OrderError, rolled, DOC_SCHEME, (1, 1), (1, 5, 1, 7), (2, 0))


if __name__ == "__main__":
    unittest.main()
