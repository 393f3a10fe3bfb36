"""Rollups and cells [11], finer and coarser [12]."""

import inspect
import itertools
import unittest

from checking import Checking
from rolluplevels.errors import CellError, OrderError, RollupError, SchemeError
from rolluplevels.schemes import above, cells, coarser, finer, is_fine, rollups, size
from samples import (
    CROSSED, DEEP, DOC_SCHEME, FLAT, HUGE, MIXED, SCHEMES, SINGLE, SIXTY, TRIPLE, other_kinds, plain_cells,
    plain_fine, plain_rollups, values_cell,
)

NO_SCHEMES = ((), [(2, ())], ((7, ()),), ((True, ()),), ((6, ()), (5, ()), (3, ())), ((2, ((0, 1),)),), None)


def rollup_pairs(scheme):
    return itertools.product(plain_rollups(scheme), repeat=2)


class RollupsTest(Checking):

    def test_of_one_attribute(self):
        self.assert_same(list(rollups(SINGLE)), [(0,)])
        self.assert_same(list(rollups(FLAT)), [(0,)])
        self.assert_same(list(rollups(DEEP)), [(0,), (1,), (2,), (3,)])

    def test_of_two_attributes(self):
        self.assert_same(list(rollups(DOC_SCHEME)), [(0, 0), (0, 1), (1, 0), (1, 1), (2, 0), (2, 1)])
        self.assert_same(list(rollups(CROSSED)), [(0, 0), (1, 0), (2, 0)])
        self.assert_same(list(rollups(MIXED)), [(0, 0), (0, 1), (0, 2), (0, 3)])

    def test_of_three_attributes(self):
        expected = [(0, 0, 0), (0, 0, 1), (0, 0, 2), (1, 0, 0), (1, 0, 1), (1, 0, 2)]
        self.assert_same(list(rollups(TRIPLE)), expected)

    def test_all_of_them_ascending(self):
        for scheme in SCHEMES:
            found = list(rollups(scheme))
            self.assert_same(found, plain_rollups(scheme))
            self.assertEqual(found, sorted(set(found)))

    def test_it_is_a_generator(self):
        self.assertTrue(inspect.isgenerator(rollups(SINGLE)))

    def test_two_side_by_side(self):
        one, other = rollups(DOC_SCHEME), rollups(DEEP)
        self.assertEqual([next(one), next(one), next(other), next(one)], [(0, 0), (0, 1), (0,), (1, 0)])
        self.assertEqual(list(other), [(1,), (2,), (3,)])
        self.assertEqual(list(one), [(1, 1), (2, 0), (2, 1)])

    def test_two_of_the_same_scheme_side_by_side(self):
        for one, other in zip(rollups(SIXTY), rollups(SIXTY), strict=True):
            self.assert_same(one, other)
        pairs = [(one, other) for one in rollups(TRIPLE) for other in rollups(TRIPLE)]
        self.assertEqual(pairs, list(rollup_pairs(TRIPLE)))

    def test_no_scheme(self):
        for thing in list(NO_SCHEMES) + other_kinds():
            self.assert_raises_exactly(SchemeError, lambda given: next(rollups(given)), thing)


class CellsTest(Checking):

    def test_of_the_document(self):
        self.assert_same(cells(DOC_SCHEME, (1, 1)), ((0, 0), (0, 1), (1, 0), (1, 1)))
        self.assert_same(cells(DOC_SCHEME, (2, 0)), ((0, 0), (0, 1), (0, 2)))
        self.assert_same(cells(DOC_SCHEME, (2, 1)), ((0, 0), (0, 1)))

    def test_of_one_value(self):
        self.assert_same(cells(SINGLE, (0,)), ((0,),))
        self.assert_same(size(SINGLE, (0,)), 1)

    def test_of_six_values(self):
        self.assert_same(cells(FLAT, (0,)), ((0,), (1,), (2,), (3,), (4,), (5,)))
        self.assert_same(size(FLAT, (0,)), 6)

    def test_of_sixty_cells(self):
        self.assertEqual(len(cells(SIXTY, (0, 0, 0))), 60)
        self.assert_same(size(SIXTY, (0, 0, 0)), 60)

    def test_of_the_last_levels(self):
        self.assert_same(cells(SIXTY, (2, 2, 0)), ((0, 0, 0), (0, 0, 1), (1, 0, 0), (1, 0, 1)))
        self.assert_same(cells(DEEP, (3,)), ((0,), (1,)))

    def test_all_of_them_ascending(self):
        for scheme in SCHEMES:
            for rollup in plain_rollups(scheme):
                found = cells(scheme, rollup)
                self.assert_same(found, tuple(plain_cells(scheme, rollup)))
                self.assert_same(size(scheme, rollup), len(found))

    def test_arguments_are_not_modified(self):
        for function in (cells, size):
            self.assert_unchanged(function, TRIPLE, (1, 0, 1))

    def test_exceptions(self):
        for function in (cells, size):
            for thing in list(NO_SCHEMES) + other_kinds():
                self.assert_raises_exactly(SchemeError, function, thing, (0, 0))
                self.assert_raises_exactly(SchemeError, function, thing, None)
            for thing in wrong_rollups():
                self.assert_raises_exactly(RollupError, function, DOC_SCHEME, thing)


def wrong_rollups():
    """Values that are no rollups of the document's scheme."""
    return other_kinds() + [
        (), (0,), (0, 0, 0), (3, 0), (0, 2), (2, 2), (-1, 0), (0, -1), (HUGE, 0), (0, HUGE), (True, 0), (0, True),
        (False, False), [2, 1], (2, None), ("2", "1"), ((2,), (1,)), (2, [1]),
    ]


class OrderTest(Checking):

    def test_of_the_document(self):
        self.assertIs(is_fine(DOC_SCHEME, (1, 1), (2, 1)), True)
        self.assertIs(is_fine(DOC_SCHEME, (1, 1), (1, 0)), False)
        self.assertIs(is_fine(DOC_SCHEME, (2, 0), (1, 0)), False)
        self.assert_same(finer(DOC_SCHEME, (1, 1), (2, 0)), (1, 0))
        self.assert_same(coarser(DOC_SCHEME, (1, 1), (2, 0)), (2, 1))

    def test_of_three_attributes(self):
        self.assert_same(finer(SIXTY, (0, 2, 0), (1, 1, 0)), (0, 1, 0))
        self.assert_same(coarser(SIXTY, (0, 2, 0), (1, 1, 0)), (1, 2, 0))
        self.assertIs(is_fine(SIXTY, (0, 2, 0), (1, 1, 0)), False)
        self.assertIs(is_fine(SIXTY, (0, 1, 0), (1, 1, 0)), True)

    def test_a_rollup_and_itself(self):
        for scheme in SCHEMES:
            for rollup in plain_rollups(scheme):
                self.assertIs(is_fine(scheme, rollup, rollup), True)
                self.assert_same(finer(scheme, rollup, rollup), rollup)
                self.assert_same(coarser(scheme, rollup, rollup), rollup)

    def test_is_fine_of_all_pairs(self):
        for scheme in SCHEMES:
            for one, other in rollup_pairs(scheme):
                self.assertIs(is_fine(scheme, one, other), plain_fine(one, other))

    def test_finer_is_the_coarsest_that_is_as_fine_as_both(self):
        for scheme in SCHEMES:
            for one, other in rollup_pairs(scheme):
                both = [it for it in plain_rollups(scheme) if plain_fine(it, one) and plain_fine(it, other)]
                expected = [it for it in both if all(plain_fine(more, it) for more in both)]
                self.assert_same([finer(scheme, one, other)], expected)

    def test_coarser_is_the_finest_that_both_are_as_fine_as(self):
        for scheme in SCHEMES:
            for one, other in rollup_pairs(scheme):
                both = [it for it in plain_rollups(scheme) if plain_fine(one, it) and plain_fine(other, it)]
                expected = [it for it in both if all(plain_fine(it, more) for more in both)]
                self.assert_same([coarser(scheme, one, other)], expected)

    def test_arguments_are_not_modified(self):
        for function in (is_fine, finer, coarser):
            self.assert_unchanged(function, SIXTY, (0, 2, 0), (1, 1, 0))

    def test_exceptions(self):
        for function in (is_fine, finer, coarser):
            for thing in list(NO_SCHEMES) + other_kinds():
                self.assert_raises_exactly(SchemeError, function, thing, (0, 0), (0, 0))
                self.assert_raises_exactly(SchemeError, function, thing, None, None)
            for thing in wrong_rollups():
                self.assert_raises_exactly(RollupError, function, DOC_SCHEME, thing, (2, 1))
                self.assert_raises_exactly(RollupError, function, DOC_SCHEME, (0, 0), thing)
                self.assert_raises_exactly(RollupError, function, DOC_SCHEME, thing, thing)


class AboveTest(Checking):

    def test_of_the_document(self):
        self.assert_same(above(DOC_SCHEME, (0, 0), (2, 0), (1, 1)), (1, 0))
        self.assert_same(above(DOC_SCHEME, (0, 0), (1, 2), (1, 1)), (0, 1))
        self.assert_same(above(DOC_SCHEME, (1, 0), (1, 2), (2, 1)), (0, 1))

    def test_through_several_steps(self):
        # DEEP's steps: (0, 1, 2, 3, 1, 0), (2, 0, 1, 0), (1, 0, 1).
        found = [above(DEEP, (0,), (value,), (2,)) for value in range(6)]
        self.assert_same(found, [(2,), (0,), (1,), (0,), (0,), (2,)])
        found = [above(DEEP, (1,), (group,), (3,)) for group in range(4)]
        self.assert_same(found, [(1,), (1,), (0,), (1,)])

    def test_a_rollup_and_itself(self):
        for scheme in SCHEMES:
            for rollup in plain_rollups(scheme):
                for cell in plain_cells(scheme, rollup):
                    self.assert_same(above(scheme, rollup, cell, rollup), cell)

    def test_all_cells_and_pairs(self):
        for scheme in SCHEMES:
            finest = plain_cells(scheme, (0,) * len(scheme))
            for one, other in rollup_pairs(scheme):
                if plain_fine(one, other):
                    for values in finest:
                        found = above(scheme, one, values_cell(scheme, one, values), other)
                        self.assert_same(found, values_cell(scheme, other, values))

    def test_arguments_are_not_modified(self):
        self.assert_unchanged(above, DOC_SCHEME, (0, 1), (2, 1), (1, 1))

    def test_exceptions(self):
        for thing in list(NO_SCHEMES) + other_kinds():
            self.assert_raises_exactly(SchemeError, above, thing, (0, 0), (0, 0), (0, 0))
        for thing in wrong_rollups():
            self.assert_raises_exactly(RollupError, above, DOC_SCHEME, thing, (0, 0), (2, 1))
            self.assert_raises_exactly(RollupError, above, DOC_SCHEME, (0, 0), (0, 0), thing)

    def test_wrong_cells(self):
        wrong = other_kinds() + [
            (), (0,), (0, 0, 0), (2, 0), (0, 3), (-1, 0), (0, -1), (HUGE, 0), (True, 0), (0, True), [1, 2],
            (1, None), ("1", "2"), ((1,), (2,)), (1, [2]),
        ]
        for thing in wrong:
            self.assert_raises_exactly(CellError, above, DOC_SCHEME, (1, 0), thing, (2, 1))
        self.assert_raises_exactly(CellError, above, DOC_SCHEME, (1, 1), (0, 2), (1, 1))

    def test_wrong_order(self):
        for scheme in SCHEMES:
            cell = (0,) * len(scheme)
            for one, other in rollup_pairs(scheme):
                if not plain_fine(one, other):
                    self.assert_raises_exactly(OrderError, above, scheme, one, cell, other)

    def test_the_first_of_several_exceptions(self):
        self.assert_raises_exactly(SchemeError, above, None, None, None, None)
        self.assert_raises_exactly(RollupError, above, DOC_SCHEME, None, None, None)
        self.assert_raises_exactly(RollupError, above, DOC_SCHEME, (3, 0), (9, 9), (0, 0))
        self.assert_raises_exactly(CellError, above, DOC_SCHEME, (1, 0), None, None)
        self.assert_raises_exactly(CellError, above, DOC_SCHEME, (1, 0), (2, 0), (0, 0))
        self.assert_raises_exactly(CellError, above, DOC_SCHEME, (1, 0), (2, 0), (0, 2))
        self.assert_raises_exactly(RollupError, above, DOC_SCHEME, (1, 0), (1, 0), (0, 2))
        self.assert_raises_exactly(OrderError, above, DOC_SCHEME, (1, 0), (1, 0), (0, 1))


if __name__ == "__main__":
    unittest.main()
