"""Sums, answers and reports at the limits: 60 cells, 48 rollups, eight stored ones, six pieces."""

import itertools
import random
import unittest

from checking import Checking
from plain_answers import plain_answer, plain_answer_cell, plain_own
from rolluplevels.answers import answer, answer_cell, own_cell, shows_answer, shows_answer_cell
from rolluplevels.reports import clash, fill, shows_fill
from rolluplevels.schemes import is_scheme
from rolluplevels.tables import rolled, sums
from samples import LARGEST, plain_cells, plain_coarser, plain_fine, plain_rolled, plain_rollups, plain_sums, tables

ROLLUPS = plain_rollups(LARGEST)
NOTHING = (0,) * 60
EIGHT = ((0, 0, 0), (1, 0, 0), (0, 1, 0), (0, 0, 1), (1, 1, 0), (1, 0, 1), (0, 1, 1), (1, 1, 1))
COARSE = ((3, 0, 0), (0, 3, 0), (0, 0, 2), (2, 1, 0), (1, 2, 1), (1, 1, 2), (2, 0, 1), (1, 3, 0))


def plain_first_difference(one, other):
    common = plain_coarser(one[0], other[0])
    ones, others = plain_rolled(LARGEST, *one, common), plain_rolled(LARGEST, *other, common)
    differing = [cell for cell, a, b in zip(plain_cells(LARGEST, common), ones, others) if a != b]
    return differing[0] if differing else None


def plain_clash(report):
    for second, first in itertools.product(range(len(report)), repeat=2):
        cell = plain_first_difference(report[first], report[second]) if first < second else None
        if cell is not None:
            return (first, second, cell)
    return None


class LimitsTest(Checking):

    def test_the_scheme(self):
        self.assertIs(is_scheme(LARGEST), True)
        self.assertEqual(len(ROLLUPS), 48)
        self.assertEqual(len(plain_cells(LARGEST, (0, 0, 0))), 60)

    def test_sums_at_all_rollups(self):
        for table in tables(LARGEST):
            for rollup in ROLLUPS:
                self.assert_same(sums(LARGEST, table, rollup), plain_sums(LARGEST, table, rollup))

    def test_rolled_between_all_rollups(self):
        table = tables(LARGEST)[1]
        known = {rollup: plain_sums(LARGEST, table, rollup) for rollup in ROLLUPS}
        for one, other in itertools.product(ROLLUPS, repeat=2):
            if plain_fine(one, other):
                self.assert_same(rolled(LARGEST, one, known[one], other), known[other])

    def test_answers_at_all_rollups(self):
        for stored, wanted in itertools.product((EIGHT, COARSE, COARSE[:3], ()), ROLLUPS):
            expected = plain_answer(LARGEST, stored, wanted)
            self.assert_same(answer(LARGEST, stored, wanted), expected)
            self.assertIs(shows_answer(LARGEST, stored, wanted, expected), True)

    def test_answers_at_all_cells(self):
        for rollup in ROLLUPS[::3]:
            for cell in plain_cells(LARGEST, rollup)[::2]:
                self.assert_same(own_cell(LARGEST, rollup, cell), plain_own(LARGEST, rollup, cell))
                for stored in (EIGHT[1:], COARSE):
                    expected = plain_answer_cell(LARGEST, stored, rollup, cell)
                    self.assert_same(answer_cell(LARGEST, stored, rollup, cell), expected)
                    self.assertIs(shows_answer_cell(LARGEST, stored, rollup, cell, expected), True)

    def test_six_pieces_without_an_amount(self):
        report = (((0, 0, 0), NOTHING),) * 6
        self.assert_same(fill(LARGEST, report), ("table", NOTHING))
        self.assertIsNone(clash(LARGEST, report))
        self.assertIs(shows_fill(LARGEST, report, ("table", NOTHING)), True)
        self.assertIs(shows_fill(LARGEST, report, ("clash", 0, 1, (0, 0, 0))), False)

    def test_drawn_reports_of_six_pieces(self):
        chance = random.Random(41)
        for turn in range(60):
            table = tuple(chance.randrange(-9, 10) for at in range(60))
            report = tuple((rollup, plain_sums(LARGEST, table, rollup)) for rollup in chance.choices(ROLLUPS, k=6))
            self.assert_report(report)
            place = chance.randrange(6)
            rollup, amounts = report[place]
            at = chance.randrange(len(amounts))
            changed = (rollup, amounts[:at] + (amounts[at] + 1,) + amounts[at + 1:])
            self.assert_report(report[:place] + (changed,) + report[place + 1:])

    def assert_report(self, report):
        """clash and fill tell what the pieces, taken two by two, give."""
        expected = plain_clash(report)
        self.assert_same(clash(LARGEST, report), expected)
        found = fill(LARGEST, report)
        self.assertIs(shows_fill(LARGEST, report, found), True)
        if expected is not None:
            self.assert_same(found, ("clash", *expected))
        else:
            word, table = found
            self.assertEqual(word, "table")
            for rollup, amounts in report:
                self.assert_same(plain_sums(LARGEST, table, rollup), amounts)


if __name__ == "__main__":
    unittest.main()
