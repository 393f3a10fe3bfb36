"""The general rules [2] and [3], over the whole program: bools, wrong arguments, and what comes first."""

import itertools
import unittest

from checking import Checking, parts_of, shown
from rolluplevels.answers import answer, answer_cell, own_cell, shows_answer, shows_answer_cell
from rolluplevels.cubes import Cube
from rolluplevels.errors import (
    AmountError, CellError, CubeError, NumberError, PlaceError, ReportError, RollupError, SchemeError, StoredError,
    SumsError, TableError, TextError,
)
from rolluplevels.plans import best, cost, needed
from rolluplevels.reports import clash, fill, shows_fill
from rolluplevels.schemes import above, cells, coarser, finer, is_fine, is_scheme, rollups, size
from rolluplevels.stores import Frugal, Lean, LeanFrugal, Store
from rolluplevels.tables import is_table, rolled, sums
from rolluplevels.texts import read_report, read_scheme, report_text, scheme_text
from samples import DOC_SCHEME, DOC_TABLE, other_kinds

ROLLUP = (1, 1)
FINE = (0, 1)
CELL = (1, 0)
STORED = ((1, 1), (2, 0), (0, 1))
REPORT = (((1, 1), (1, 5, 1, 7)), ((2, 0), (2, 4, 8)))

WRONG = {
    SchemeError: [None, [], ((7, ()),), (Cube(DOC_SCHEME),)],
    RollupError: [None, (3, 0), [1, 1], Store(DOC_SCHEME, (1, 1)), ((1, 1),)],
    CellError: [None, (9, 9), [1, 0], Cube(DOC_SCHEME), (1, 0, 0)],
    TableError: [DOC_TABLE[1:], list(DOC_TABLE), Cube(DOC_SCHEME, DOC_TABLE), (None,) * 12],
    SumsError: [None, (1, 5, 1), [1, 5, 1, 7], Cube(DOC_SCHEME)],
    StoredError: [None, ((3, 0),), ((1, 1),) * 9, [(1, 1)], (Store(DOC_SCHEME, (1, 1)),)],
    ReportError: [None, [], REPORT[0], ((1, 1),), REPORT[:1] * 7, Store(DOC_SCHEME, (1, 1))],
    NumberError: [None, 1001, "1", -1001, Cube(DOC_SCHEME)],
    AmountError: [None, 1_000_001, "1", Cube(DOC_SCHEME)],
    CubeError: [None, DOC_TABLE, Store(DOC_SCHEME, (1, 1)), (None,)],
    PlaceError: [None, 3, -1, "0", Store(DOC_SCHEME, (1, 1))],
    TextError: [None, "x", "1 1 = 1 5 1\n", ["1\n"], Cube(DOC_SCHEME)],
}


def all_rollups(scheme):
    return list(rollups(scheme))


def made_cube():
    return Cube(DOC_SCHEME, DOC_TABLE)


def made_store():
    return Store(DOC_SCHEME, (1, 1), (2, 0), (0, 1))


def assigned(table):
    made_cube().table = table


# Each function with arguments that are right, and the exceptions for each of them in the interface's order; None for
# an argument that may be any value.
CALLS = [
    (is_scheme, (DOC_SCHEME,), (None,)),
    (all_rollups, (DOC_SCHEME,), (SchemeError,)),
    (cells, (DOC_SCHEME, ROLLUP), (SchemeError, RollupError)),
    (size, (DOC_SCHEME, ROLLUP), (SchemeError, RollupError)),
    (is_fine, (DOC_SCHEME, ROLLUP, FINE), (SchemeError, RollupError, RollupError)),
    (finer, (DOC_SCHEME, ROLLUP, FINE), (SchemeError, RollupError, RollupError)),
    (coarser, (DOC_SCHEME, ROLLUP, FINE), (SchemeError, RollupError, RollupError)),
    (above, (DOC_SCHEME, FINE, CELL, ROLLUP), (SchemeError, RollupError, CellError, RollupError)),
    (is_table, (DOC_SCHEME, DOC_TABLE), (SchemeError, None)),
    (sums, (DOC_SCHEME, DOC_TABLE, ROLLUP), (SchemeError, TableError, RollupError)),
    (rolled, (DOC_SCHEME, ROLLUP, (1, 5, 1, 7), ROLLUP), (SchemeError, RollupError, SumsError, RollupError)),
    (answer, (DOC_SCHEME, STORED, ROLLUP), (SchemeError, StoredError, RollupError)),
    (shows_answer, (DOC_SCHEME, STORED, ROLLUP, ("from", 0)), (SchemeError, StoredError, RollupError, None)),
    (own_cell, (DOC_SCHEME, ROLLUP, CELL), (SchemeError, RollupError, CellError)),
    (answer_cell, (DOC_SCHEME, STORED, ROLLUP, CELL), (SchemeError, StoredError, RollupError, CellError)),
    (
        shows_answer_cell, (DOC_SCHEME, STORED, ROLLUP, CELL, ("from", 0)),
        (SchemeError, StoredError, RollupError, CellError, None),
    ),
    (needed, (DOC_SCHEME, STORED), (SchemeError, StoredError)),
    (cost, (DOC_SCHEME, STORED, STORED), (SchemeError, StoredError, StoredError)),
    (best, (DOC_SCHEME, STORED, STORED, 1), (SchemeError, StoredError, StoredError, NumberError)),
    (clash, (DOC_SCHEME, REPORT), (SchemeError, ReportError)),
    (fill, (DOC_SCHEME, REPORT), (SchemeError, ReportError)),
    (shows_fill, (DOC_SCHEME, REPORT, ("table", DOC_TABLE)), (SchemeError, ReportError, None)),
    (Cube, (DOC_SCHEME, DOC_TABLE), (SchemeError, TableError)),
    (Cube.single, (DOC_SCHEME, CELL, 1), (SchemeError, CellError, AmountError)),
    (Cube.summed, ((made_cube(), made_cube()),), (CubeError,)),
    (assigned, (DOC_TABLE,), (TableError,)),
    (lambda table: made_cube().assign_table(table), (DOC_TABLE,), (TableError,)),
    (lambda cell, amount: made_cube().put(cell, amount), (CELL, 1), (CellError, AmountError)),
    (lambda cell, amount: made_cube()(cell, amount), (CELL, 1), (CellError, AmountError)),
    (lambda rollup: made_cube()[rollup], (ROLLUP,), (RollupError,)),
    (lambda other: made_cube() + other, (made_cube(),), (CubeError,)),
    (lambda other: made_cube() - other, (made_cube(),), (CubeError,)),
    (lambda one: one + made_cube(), (made_cube(),), (CubeError,)),
    (lambda one: one - made_cube(), (made_cube(),), (CubeError,)),
    (lambda number: made_cube() * number, (1,), (NumberError,)),
    (lambda thing: thing in made_cube(), (CELL,), (None,)),
    (Store, (DOC_SCHEME, ROLLUP, FINE), (SchemeError, StoredError, StoredError)),
    (Lean, (DOC_SCHEME, ROLLUP, FINE), (SchemeError, StoredError, StoredError)),
    (
        lambda scheme, one, other, most: Frugal(scheme, one, other, most=most), (DOC_SCHEME, ROLLUP, FINE, 60),
        (SchemeError, StoredError, StoredError, NumberError),
    ),
    (
        lambda scheme, one, other, most: LeanFrugal(scheme, one, other, most=most), (DOC_SCHEME, ROLLUP, FINE, 60),
        (SchemeError, StoredError, StoredError, NumberError),
    ),
    (lambda cell, amount: made_store().put(cell, amount), (CELL, 1), (CellError, AmountError)),
    (lambda rollup: made_store()(rollup), (ROLLUP,), (RollupError,)),
    (lambda rollup, cell: made_store()[rollup, cell], (ROLLUP, CELL), (RollupError, CellError)),
    (lambda rollup: made_store().keep(rollup), (ROLLUP,), (RollupError,)),
    (lambda place: made_store().drop(place), (1,), (PlaceError,)),
    (lambda thing: thing in made_store(), (ROLLUP,), (None,)),
    (scheme_text, (DOC_SCHEME,), (SchemeError,)),
    (read_scheme, ("4 : 0 0 1 1 : 0 0\n",), (TextError,)),
    (report_text, (DOC_SCHEME, REPORT), (SchemeError, ReportError)),
    (read_report, (DOC_SCHEME, "1 1 = 1 5 1 7\n"), (SchemeError, TextError)),
]


def with_a_bool(thing):
    """The value with one of its integers 0 and 1 replaced by the bool that Python takes as equal."""
    if type(thing) is tuple:
        for at, part in enumerate(thing):
            for other in with_a_bool(part):
                yield thing[:at] + (other,) + thing[at + 1:]
    elif type(thing) is int and thing in (0, 1):
        yield bool(thing)


def with_a_list(thing):
    """The value with one of its tuples replaced by a list."""
    if type(thing) is tuple:
        yield list(thing)
        for at, part in enumerate(thing):
            for other in with_a_list(part):
                yield thing[:at] + (other,) + thing[at + 1:]


class GeneralTest(Checking):

    def each_call(self):
        for function, given, kinds in CALLS:
            with self.subTest(shown((function, given))):
                yield function, given, kinds

    def test_right_arguments(self):
        for function, given, kinds in self.each_call():
            before = parts_of(given)
            found = function(*given)
            self.assertEqual(parts_of(function(*given)), parts_of(found))
            self.assertEqual(parts_of(given), before)

    def test_a_bool_or_a_list_in_an_argument(self):
        for function, given, kinds in self.each_call():
            for at, kind in enumerate(kinds):
                for thing in itertools.chain(with_a_bool(given[at]), with_a_list(given[at])):
                    wrong = given[:at] + (thing,) + given[at + 1:]
                    if kind is not None:
                        self.assert_raises_exactly(kind, function, *wrong)
                    else:
                        self.assertIs(function(*wrong), False)

    def test_several_wrong_arguments(self):
        for function, given, kinds in self.each_call():
            checked = [at for at, kind in enumerate(kinds) if kind is not None]
            for many in range(1, len(checked) + 1):
                for places in itertools.combinations(checked, many):
                    for turn in range(6):
                        wrong = list(given)
                        for at in places:
                            wrong[at] = WRONG[kinds[at]][(turn + at) % len(WRONG[kinds[at]])]
                        if not (function is Cube and wrong[1] is None):
                            self.assert_raises_exactly(kinds[places[0]], function, *wrong)

    def test_any_value(self):
        things = other_kinds()
        for function, given, kinds in self.each_call():
            for at, kind in enumerate(kinds):
                if kind is None:
                    for thing in things:
                        before = parts_of(thing)
                        found = function(*given[:at], thing, *given[at + 1:])
                        self.assertIs(found, False)
                        self.assertEqual(parts_of(thing), before)
                elif kind in (SchemeError, RollupError, CellError, SumsError, CubeError):
                    for thing in things:
                        if kind is CubeError and type(thing) in (Cube, tuple):
                            continue
                        self.assert_raises_exactly(kind, function, *given[:at], thing, *given[at + 1:])


if __name__ == "__main__":
    unittest.main()
