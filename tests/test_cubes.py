"""Cubes [60]."""

import copy
import itertools
import operator
import random
import unittest

from checking import Checking, parts_of, shown
from rolluplevels.cubes import Cube
from rolluplevels.errors import (
    AmountError, CellError, CubeError, MatchError, NothingDone, NumberError, RollupError, SchemeError, TableError,
)
from rolluplevels.stores import Store
from samples import (
    CROSSED, DEEP, DOC_SCHEME, DOC_TABLE, FLAT, HUGE, SCHEMES, SINGLE, SIXTY, other_kinds, plain_cells, plain_rollups,
    plain_sums, table_length, tables,
)

MILLION = 1_000_000

NO_SCHEMES = [(), [(4, ())], ((7, ()),), ((4, ((False,) * 4,)),), ((4, ()),) * 3] + other_kinds()
NO_CELLS = [
    (), (0,), (0, 0, 0), (4, 0), (0, 3), (-1, 0), (0, -1), (True, 0), (0, False), [0, 0], (0, "0"), ((0, 0),), (HUGE, 0),
] + other_kinds()
NO_AMOUNTS = [
    MILLION + 1, -MILLION - 1, HUGE, -HUGE, 9_999_999_999_999, True, False, None, "1", "", (1,), [1], {}, {1: 1},
    Cube(SINGLE), Store(SINGLE, (0,)), CellError("1"),
]
AMOUNTS = [0, 1, -1, 7, MILLION, -MILLION, MILLION - 1, 1 - MILLION]
NO_ROLLUPS = [
    (), (0,), (0, 0, 0), (3, 0), (0, 2), (-1, 0), (True, 0), (0, False), [0, 0], (0, "0"), ((0, 0), (0, 0)), (HUGE, 0),
    slice(0, 1),
] + other_kinds()
# None of these is twelve integers. None is no table either, though a cube can be made with it.
NO_TABLES = [
    DOC_TABLE[:-1], DOC_TABLE + (0,), list(DOC_TABLE), DOC_TABLE[:-1] + (True,), DOC_TABLE[:-1] + (None,), (DOC_TABLE,),
    dict(enumerate(DOC_TABLE)), DOC_TABLE[:-1] + (Cube(SINGLE),),
] + other_kinds()


def finest_cells(scheme):
    return list(itertools.product(*[range(many) for many, steps in scheme]))


def put_in(scheme, table, cell, amount):
    """The table with the amount added at the cell."""
    amounts = dict(zip(finest_cells(scheme), table))
    amounts[cell] += amount
    return tuple(amounts.values())


def state_of(cube):
    """All that a cube tells, without its way back."""
    return (cube.scheme, cube.table, cube.total, cube.changes, len(cube), repr(cube))


class CubeCase(Checking):

    def assert_cube(self, cube, scheme, table, changes=0):
        """All that the cube tells is what such a table gives."""
        self.assertIs(type(cube), Cube)
        self.assert_same(cube.scheme, scheme)
        self.assert_same(cube.table, table)
        self.assert_same(cube.changes, changes)
        self.assert_same(cube.total, sum(table))
        self.assert_same(len(cube), len([amount for amount in table if amount]))

    def assert_refused(self, kind, cube, function, *given):
        """The exception is raised, and neither the cube nor the arguments are changed."""
        before = parts_of(cube)
        self.assert_raises_exactly(kind, function, *given)
        self.assertEqual(parts_of(cube), before)


class MakingTest(CubeCase):

    def test_without_a_table(self):
        for scheme in SCHEMES:
            nothing = (0,) * table_length(scheme)
            self.assert_cube(Cube(scheme), scheme, nothing)
            self.assert_cube(Cube(scheme, None), scheme, nothing)
            self.assert_cube(Cube(scheme=scheme, table=None), scheme, nothing)

    def test_with_a_table(self):
        for scheme in SCHEMES:
            for table in tables(scheme):
                self.assert_cube(Cube(scheme, table), scheme, table)
                self.assert_cube(Cube(table=table, scheme=scheme), scheme, table)

    def test_exceptions(self):
        for thing in NO_SCHEMES:
            self.assert_raises_exactly(SchemeError, Cube, thing)
            self.assert_raises_exactly(SchemeError, Cube, thing, DOC_TABLE)
            self.assert_raises_exactly(SchemeError, Cube, thing, thing)
        for thing in NO_TABLES:
            if thing is not None:
                self.assert_raises_exactly(TableError, Cube, DOC_SCHEME, thing)
        self.assert_raises_exactly(TableError, Cube, SINGLE, DOC_TABLE)
        self.assert_raises_exactly(TableError, Cube, DOC_SCHEME, ())
        self.assert_raises_exactly(TableError, Cube, DOC_SCHEME, False)

    def test_properties_that_cannot_be_assigned(self):
        cube = Cube(DOC_SCHEME, DOC_TABLE)
        for name, value in (("scheme", SINGLE), ("total", 0), ("changes", 0)):
            with self.assertRaises(AttributeError):
                setattr(cube, name, value)
        self.assert_cube(cube, DOC_SCHEME, DOC_TABLE)

    def test_single(self):
        for scheme in SCHEMES:
            nothing = (0,) * table_length(scheme)
            for cell in finest_cells(scheme):
                for amount in AMOUNTS:
                    cube = Cube.single(scheme, cell, amount)
                    self.assert_cube(cube, scheme, put_in(scheme, nothing, cell, amount))
        self.assert_cube(Cube.single(scheme=SINGLE, cell=(0,), amount=3), SINGLE, (3,))
        self.assert_cube(Cube(SINGLE, (9,)).single(SINGLE, (0,), 3), SINGLE, (3,))

    def test_exceptions_of_single(self):
        for thing in NO_SCHEMES:
            self.assert_raises_exactly(SchemeError, Cube.single, thing, (0, 0), 1)
            self.assert_raises_exactly(SchemeError, Cube.single, thing, None, None)
        for thing in NO_CELLS:
            self.assert_raises_exactly(CellError, Cube.single, DOC_SCHEME, thing, 1)
            self.assert_raises_exactly(CellError, Cube.single, DOC_SCHEME, thing, None)
            self.assert_raises_exactly(CellError, Cube.single, DOC_SCHEME, thing, MILLION + 1)
        for thing in NO_AMOUNTS:
            self.assert_raises_exactly(AmountError, Cube.single, DOC_SCHEME, (0, 0), thing)


class PutTest(CubeCase):

    def test_at_each_cell(self):
        for scheme in SCHEMES:
            for table in tables(scheme):
                for cell in finest_cells(scheme):
                    for put in (lambda cube, *given: cube.put(*given), lambda cube, *given: cube(*given)):
                        cube = Cube(scheme, table)
                        self.assertIsNone(put(cube, cell, -7))
                        self.assert_cube(cube, scheme, put_in(scheme, table, cell, -7), 1)

    def test_amounts(self):
        for scheme in (SINGLE, FLAT, DOC_SCHEME):
            cell = finest_cells(scheme)[-1]
            for amount in AMOUNTS:
                cube = Cube(scheme)
                expected = (0,) * table_length(scheme)
                for turn in range(1, 4):
                    self.assertIsNone(cube.put(cell, amount))
                    expected = put_in(scheme, expected, cell, amount)
                    self.assert_cube(cube, scheme, expected, turn)

    def test_by_name(self):
        cube = Cube(DOC_SCHEME)
        cube.put(amount=2, cell=(1, 2))
        cube(amount=3, cell=(1, 2))
        self.assert_cube(cube, DOC_SCHEME, (0, 0, 0, 0, 0, 5) + (0,) * 6, 2)

    def test_a_sum_beyond_what_can_be_put_at_once(self):
        cube = Cube(SINGLE, (9_999_999_999_999,))
        for turn in range(3):
            cube.put((0,), MILLION)
        self.assert_cube(cube, SINGLE, (10_000_002_999_999,), 3)

    def test_exceptions(self):
        cube = Cube(DOC_SCHEME, DOC_TABLE)
        cube.put((0, 0), 1)
        for put in (cube.put, cube):
            for thing in NO_CELLS:
                self.assert_refused(CellError, cube, put, thing, 1)
                self.assert_refused(CellError, cube, put, thing, None)
                self.assert_refused(CellError, cube, put, thing, MILLION + 1)
            for thing in NO_AMOUNTS:
                self.assert_refused(AmountError, cube, put, (0, 0), thing)
                self.assert_refused(CellError, cube, put, (4, 0), thing)


class AssignTest(CubeCase):

    def test_both_ways(self):
        for scheme in SCHEMES:
            cube = Cube(scheme)
            for turn, table in enumerate(tables(scheme)):
                cube.table = table
                self.assert_cube(cube, scheme, table, 2 * turn + 1)
                self.assertIsNone(cube.assign_table(table))
                self.assert_cube(cube, scheme, table, 2 * turn + 2)
        self.assertIsNone(cube.assign_table(table=table))

    def test_exceptions(self):
        cube = Cube(DOC_SCHEME, DOC_TABLE)
        cube.put((0, 0), 1)
        for thing in NO_TABLES:
            self.assert_refused(TableError, cube, cube.assign_table, thing)
            self.assert_refused(TableError, cube, setattr, cube, "table", thing)
        self.assert_refused(TableError, cube, cube.assign_table, None)
        self.assert_refused(TableError, cube, cube.assign_table, (0,))


class SumsTest(CubeCase):

    def test_at_all_rollups(self):
        for scheme in SCHEMES:
            for table in tables(scheme):
                cube = Cube(scheme, table)
                for rollup in plain_rollups(scheme):
                    self.assert_same(cube[rollup], plain_sums(scheme, table, rollup))
                self.assert_cube(cube, scheme, table)

    def test_of_the_document(self):
        self.assert_same(Cube(DOC_SCHEME, DOC_TABLE)[1, 1], (1, 5, 1, 7))

    def test_exceptions(self):
        cube = Cube(DOC_SCHEME, DOC_TABLE)
        for thing in NO_ROLLUPS:
            self.assert_refused(RollupError, cube, operator.getitem, cube, thing)


class OperatorsTest(CubeCase):

    def assert_operands(self, *cubes):
        """Nothing that is done in the block changes the cubes."""
        return Unchanged(self, cubes)

    def test_sums_and_differences(self):
        for scheme in SCHEMES:
            for one, other in itertools.product(tables(scheme), repeat=2):
                left, right = Cube(scheme, one), Cube(scheme, other)
                left.put(finest_cells(scheme)[0], 0)
                with self.assert_operands(left, right):
                    self.assert_cube(left + right, scheme, tuple(a + b for a, b in zip(one, other)))
                    self.assert_cube(left - right, scheme, tuple(a - b for a, b in zip(one, other)))

    def test_a_cube_and_itself(self):
        cube = Cube(DOC_SCHEME, DOC_TABLE)
        with self.assert_operands(cube):
            self.assert_cube(cube + cube, DOC_SCHEME, tuple(2 * amount for amount in DOC_TABLE))
            self.assert_cube(cube - cube, DOC_SCHEME, (0,) * 12)

    def test_products(self):
        for scheme in SCHEMES:
            for table in tables(scheme):
                for number in (0, 1, -1, 2, 999, 1000, -999, -1000):
                    cube = Cube(scheme, table)
                    with self.assert_operands(cube):
                        self.assert_cube(cube * number, scheme, tuple(number * amount for amount in table))

    def test_results_are_new_cubes(self):
        for function in (operator.add, operator.sub, lambda one, other: one * 1, lambda one, other: Cube.summed((one,))):
            one, other = Cube(DOC_SCHEME, DOC_TABLE), Cube(DOC_SCHEME)
            found = function(one, other)
            self.assertIsNot(found, one)
            self.assert_raises_exactly(NothingDone, found.undo)
            found.put((0, 0), 5)
            self.assert_cube(one, DOC_SCHEME, DOC_TABLE)
            self.assert_cube(found, DOC_SCHEME, (6,) + DOC_TABLE[1:], 1)
            one.put((3, 2), 4)
            self.assert_cube(found, DOC_SCHEME, (6,) + DOC_TABLE[1:], 1)

    def test_in_place_signs_make_new_cubes(self):
        first = cube = Cube(DOC_SCHEME, DOC_TABLE)
        cube += Cube(DOC_SCHEME, DOC_TABLE)
        cube *= 3
        cube -= Cube(DOC_SCHEME, DOC_TABLE)
        self.assert_cube(cube, DOC_SCHEME, tuple(5 * amount for amount in DOC_TABLE))
        self.assert_cube(first, DOC_SCHEME, DOC_TABLE)

    def test_great_amounts_in_many_steps(self):
        cube, expected = Cube(SINGLE, (7,)), 7
        for turn in range(2000):
            cube = cube * -1000
            expected = expected * -1000
        self.assert_cube(cube, SINGLE, (expected,))

    def test_no_cube(self):
        cube = Cube(SINGLE, (3,))
        cube.put((0,), 1)
        for thing in other_kinds() + [(3,), SINGLE]:
            if type(thing) is not Cube:
                self.assert_refused(CubeError, cube, operator.add, cube, thing)
                self.assert_refused(CubeError, cube, operator.sub, cube, thing)

    def test_no_cube_on_the_left(self):
        cube = Cube(SINGLE, (3,))
        cube.put((0,), 1)
        for thing in other_kinds() + [(3,), SINGLE, [], (), ""]:
            if type(thing) is not Cube:
                self.assert_refused(CubeError, cube, operator.add, thing, cube)
                self.assert_refused(CubeError, cube, operator.sub, thing, cube)

    def test_another_scheme(self):
        for one, other in itertools.permutations(SCHEMES, 2):
            cube = Cube(one, (3,) * table_length(one))
            self.assert_refused(MatchError, cube, operator.add, cube, Cube(other))
            self.assert_refused(MatchError, cube, operator.sub, cube, Cube(other))
        # As many cells, and so tables of the same length.
        cube = Cube(((6, ()),))
        for scheme in (CROSSED, ((2, ()), (3, ())), ((6, ((0, 0, 0, 0, 0, 0),)),), ((6, ()), (1, ()))):
            self.assert_refused(MatchError, cube, operator.add, cube, Cube(scheme))
            self.assert_refused(MatchError, cube, operator.sub, cube, Cube(scheme))

    def test_no_number(self):
        cube = Cube(DOC_SCHEME, DOC_TABLE)
        things = [thing for thing in other_kinds() if type(thing) is not int]
        for thing in things + [1001, -1001, MILLION, 9_999_999_999_999, HUGE, -HUGE, cube]:
            self.assert_refused(NumberError, cube, operator.mul, cube, thing)

    def test_summed(self):
        for scheme in SCHEMES:
            for many in (1, 2, 3, 5):
                chosen = tables(scheme)[:many]
                cubes = tuple(Cube(scheme, table) for table in chosen)
                cubes[0].put(finest_cells(scheme)[0], 0)
                with self.assert_operands(*cubes):
                    self.assert_cube(Cube.summed(cubes), scheme, tuple(sum(amounts) for amounts in zip(*chosen)))
        cube = Cube(DOC_SCHEME, DOC_TABLE)
        self.assert_cube(Cube.summed((cube,) * 40), DOC_SCHEME, tuple(40 * amount for amount in DOC_TABLE))
        self.assert_cube(cube.summed(cubes=(cube, cube)), DOC_SCHEME, tuple(2 * amount for amount in DOC_TABLE))

    def test_exceptions_of_summed(self):
        right, another = Cube(DOC_SCHEME, DOC_TABLE), Cube(DEEP)
        for thing in other_kinds():
            if type(thing) is not tuple or not thing or not all(type(part) is Cube for part in thing):
                self.assert_raises_exactly(CubeError, Cube.summed, thing)
            if type(thing) is not Cube:
                for wrong in ((thing,), (right, thing), (thing, right), (right, right, thing), (right, another, thing)):
                    self.assert_raises_exactly(CubeError, Cube.summed, wrong)
        for thing in ((), [right], [right, right], {0: right}, right, (right, (right,)), ((right,),)):
            self.assert_raises_exactly(CubeError, Cube.summed, thing)
        for wrong in ((right, another), (another, right), (right, right, another), (another, right, another)):
            self.assert_raises_exactly(MatchError, Cube.summed, wrong)


class Unchanged:
    """A block that changes none of the cubes."""

    def __init__(self, case, cubes):
        self.case = case
        self.cubes = cubes

    def __enter__(self):
        self.before = parts_of(self.cubes)

    def __exit__(self, kind, value, trace):
        if kind is None:
            self.case.assertEqual(parts_of(self.cubes), self.before)


class CellsTest(CubeCase):

    def test_in_and_len(self):
        for scheme in SCHEMES:
            for table in tables(scheme):
                cube = Cube(scheme, table)
                self.assert_same(len(cube), sum(1 for amount in table if amount != 0))
                for cell, amount in zip(finest_cells(scheme), table):
                    self.assertIs(cell in cube, amount != 0)

    def test_an_amount_that_comes_and_goes(self):
        cube = Cube(DOC_SCHEME)
        self.assertIs((1, 2) in cube, False)
        cube.put((1, 2), 5)
        self.assertIs((1, 2) in cube, True)
        cube.put((1, 2), -5)
        self.assertIs((1, 2) in cube, False)
        cube.undo()
        self.assertIs((1, 2) in cube, True)
        self.assertEqual(len(cube), 1)

    def test_any_value(self):
        cube = Cube(DOC_SCHEME, (1,) * 12)
        for thing in NO_CELLS:
            with self.subTest(shown(thing)):
                before = parts_of(thing)
                self.assertIs(thing in cube, False)
                self.assertEqual(parts_of(thing), before)
        self.assertIs((0,) in Cube(SINGLE, (1,)), True)
        self.assertIs((False,) in Cube(SINGLE, (1,)), False)
        self.assertIs(0 in Cube(SINGLE, (1,)), False)


class EqualTest(CubeCase):

    def test_cubes(self):
        things = [(scheme, table) for scheme in SCHEMES for table in tables(scheme)]
        things += [(((6, ()),), (1, 2, 3, 4, 5, 6)), (((2, ()), (3, ())), (1, 2, 3, 4, 5, 6))]
        for one, other in itertools.product(things, repeat=2):
            self.assertIs(Cube(*one) == Cube(*other), one == other)
            self.assertIs(Cube(*one) != Cube(*other), one != other)

    def test_the_way_does_not_matter(self):
        one, other = Cube(DOC_SCHEME), Cube(DOC_SCHEME, DOC_TABLE)
        self.assertIs(one == other, False)
        for cell, amount in zip(finest_cells(DOC_SCHEME), DOC_TABLE):
            one.put(cell, amount)
        self.assertIs(one == other, True)
        one.undo()
        self.assertIs(one == other, False)
        self.assertIs(one == one, True)

    def test_nothing_else(self):
        cube = Cube(SINGLE, (3,))
        for thing in other_kinds() + [SINGLE, (3,), (SINGLE, (3,)), 3, "Cube(1 cells, total 3)", Store(SINGLE, (0,))]:
            if type(thing) is not Cube:
                self.assertIs(cube == thing, False)
                self.assertIs(cube != thing, True)
                self.assertIs(thing == cube, False)

    def test_within_tuples(self):
        self.assertEqual((Cube(SINGLE), 0), (Cube(SINGLE), 0))
        self.assertNotEqual((Cube(SINGLE, (1,)), 0), (Cube(SINGLE), 0))


class ReprTest(CubeCase):

    def test_written_out(self):
        for cube, expected in (
            (Cube(FLAT, (1, 2, 4, 0, 0, 0)), "Cube(3 cells, total 7)"),
            (Cube(FLAT), "Cube(0 cells, total 0)"),
            (Cube(FLAT, (0, 0, 1, 0, 0, 0)), "Cube(1 cells, total 1)"),
            (Cube(FLAT, (5, -5, 0, 0, 0, 0)), "Cube(2 cells, total 0)"),
            (Cube(FLAT, (-5, -5, 0, 0, 0, 1)), "Cube(3 cells, total -9)"),
            (Cube(DOC_SCHEME, DOC_TABLE), "Cube(7 cells, total 14)"),
            (Cube(SIXTY, (10 ** 13,) * 60), "Cube(60 cells, total 600000000000000)"),
        ):
            self.assert_same(repr(cube), expected)
            self.assert_same(str(cube), expected)

    def test_totals_of_any_length(self):
        for digits in (59, 60, 61, 120, 121, 4299, 4300, 4301, 9000):
            self.assert_same(repr(Cube(SINGLE, (10 ** (digits - 1),))), f"Cube(1 cells, total 1{'0' * (digits - 1)})")
            self.assert_same(repr(Cube(SINGLE, (1 - 10 ** digits,))), f"Cube(1 cells, total -{'9' * digits})")


class UndoTest(CubeCase):

    def test_nothing_done(self):
        for cube in (Cube(DOC_SCHEME), Cube(DOC_SCHEME, DOC_TABLE), Cube.single(DOC_SCHEME, (0, 0), 3)):
            self.assert_refused(NothingDone, cube, cube.undo)
            cube.put((0, 0), 1)
            self.assertIsNone(cube.undo())
            self.assert_refused(NothingDone, cube, cube.undo)
            self.assert_refused(NothingDone, cube, cube.undo)

    def test_changes_without_a_difference(self):
        cube = Cube(DOC_SCHEME, DOC_TABLE)
        cube.put((0, 0), 0)
        cube((3, 2), 0)
        cube.table = DOC_TABLE
        cube.assign_table(DOC_TABLE)
        for changes in (4, 3, 2, 1):
            self.assert_cube(cube, DOC_SCHEME, DOC_TABLE, changes)
            cube.undo()
        self.assert_refused(NothingDone, cube, cube.undo)

    def test_long_rows_and_the_way_back(self):
        for seed, scheme in enumerate(SCHEMES):
            chance = random.Random(seed)
            cube, states = Cube(scheme, tables(scheme)[1]), [tables(scheme)[1]]
            for turn in range(300):
                self.one_turn(chance, cube, scheme, states)
                self.assert_cube(cube, scheme, states[-1], len(states) - 1)
            while len(states) > 1:
                cube.undo()
                states.pop()
                self.assert_cube(cube, scheme, states[-1], len(states) - 1)
            self.assert_refused(NothingDone, cube, cube.undo)

    def one_turn(self, chance, cube, scheme, states):
        """Change the cube and the list of its tables, or have it refuse something."""
        turn = chance.randrange(8)
        cell = chance.choice(finest_cells(scheme))
        if turn < 3:
            amount = chance.choice(AMOUNTS)
            chance.choice((cube, cube.put))(cell, amount)
            states.append(put_in(scheme, states[-1], cell, amount))
        elif turn == 3:
            cube.table = chance.choice(tables(scheme))
            states.append(cube.table)
        elif turn == 4 and len(states) > 1:
            cube.undo()
            states.pop()
        elif turn == 5:
            self.assert_refused(CellError, cube, cube.put, cell + (0,), 1)
        elif turn == 6:
            self.assert_refused(AmountError, cube, cube, cell, chance.choice(NO_AMOUNTS))
        elif turn == 7:
            self.assert_refused(TableError, cube, cube.assign_table, states[-1] + (0,))

    def test_many_puts(self):
        cube = Cube(SINGLE)
        for turn in range(20_000):
            cube.put((0,), 1)
        self.assert_cube(cube, SINGLE, (20_000,), 20_000)
        for turn in range(20_000):
            cube.undo()
        self.assert_cube(cube, SINGLE, (0,))
        self.assert_refused(NothingDone, cube, cube.undo)

    def test_cubes_do_not_share_their_changes(self):
        one, other = Cube(DOC_SCHEME, DOC_TABLE), Cube(DOC_SCHEME, DOC_TABLE)
        one.put((0, 0), 1)
        self.assert_cube(other, DOC_SCHEME, DOC_TABLE)
        self.assert_refused(NothingDone, other, other.undo)
        self.assert_cube(one, DOC_SCHEME, (2,) + DOC_TABLE[1:], 1)
        copied = copy.deepcopy(one)
        copied.undo()
        self.assert_cube(copied, DOC_SCHEME, DOC_TABLE)
        self.assert_cube(one, DOC_SCHEME, (2,) + DOC_TABLE[1:], 1)


class TryingTest(CubeCase):

    def changed(self):
        cube = Cube(DOC_SCHEME, DOC_TABLE)
        cube.put((0, 0), 1)
        cube.put((0, 0), 1)
        return cube

    def assert_way_back(self, cube):
        """The cube is as changed makes it, with its way back."""
        self.assert_cube(cube, DOC_SCHEME, (3,) + DOC_TABLE[1:], 2)
        cube.undo()
        self.assert_cube(cube, DOC_SCHEME, (2,) + DOC_TABLE[1:], 1)
        cube.undo()
        self.assert_cube(cube, DOC_SCHEME, DOC_TABLE)
        self.assert_refused(NothingDone, cube, cube.undo)

    def test_without_an_exception(self):
        cube = self.changed()
        with cube.trying():
            cube.put((0, 1), 4)
            cube.undo()
            cube.put((0, 0), 1)
        self.assert_cube(cube, DOC_SCHEME, (4,) + DOC_TABLE[1:], 3)
        cube.undo()
        self.assert_way_back(cube)

    def test_with_an_exception(self):
        for error in (KeyError("why"), AmountError("why"), KeyboardInterrupt(), SystemExit(3), GeneratorExit()):
            cube = self.changed()
            with self.assertRaises(type(error)) as caught:
                with cube.trying():
                    cube.put((0, 1), 4)
                    cube.table = (0,) * 12
                    raise error
            self.assertIs(caught.exception, error)
            self.assert_way_back(cube)

    def test_with_an_exception_of_the_cube(self):
        cube = self.changed()
        with self.assertRaises(CellError):
            with cube.trying():
                cube.put((0, 1), 4)
                cube.put((0, 3), 4)
        self.assert_way_back(cube)

    def test_undone_beyond_the_beginning_of_the_block(self):
        cube = self.changed()
        with self.assertRaises(NothingDone):
            with cube.trying():
                cube.undo()
                cube.undo()
                cube.put((3, 2), 9)
                cube.undo()
                cube.undo()
        self.assert_way_back(cube)
        cube = self.changed()
        with cube.trying():
            cube.undo()
            cube.undo()
        self.assert_cube(cube, DOC_SCHEME, DOC_TABLE)

    def test_an_exception_that_does_not_leave_the_block(self):
        cube = self.changed()
        with cube.trying():
            cube.undo()
            try:
                cube.put((0, 0), MILLION + 1)
            except AmountError:
                cube.put((0, 0), 1)
        self.assert_way_back(cube)

    def test_leaving_without_an_exception(self):
        def put_and_leave(cube):
            with cube.trying():
                cube.put((0, 0), 1)
                return cube.changes

        cube = Cube(DOC_SCHEME, DOC_TABLE)
        self.assertEqual(put_and_leave(cube), 1)
        for turn in range(2):
            with cube.trying():
                cube.put((0, 0), 1)
                continue
        self.assert_cube(cube, DOC_SCHEME, (4,) + DOC_TABLE[1:], 3)

    def test_one_within_another(self):
        for inner, outer in itertools.product((False, True), repeat=2):
            cube = self.changed()
            try:
                with cube.trying():
                    cube.put((0, 1), 10)
                    try:
                        with cube.trying():
                            cube.undo()
                            cube.undo()
                            cube.put((0, 2), 100)
                            if inner:
                                raise KeyError("inner")
                    except KeyError:
                        self.assert_cube(cube, DOC_SCHEME, (3, 10) + DOC_TABLE[2:], 3)
                    cube.put((0, 2), 1000)
                    if outer:
                        raise IndexError("outer")
            except IndexError:
                self.assert_way_back(cube)
            else:
                self.assertFalse(outer)
                expected = (3, 10, 1002) if inner else (2, 0, 1102)
                self.assert_cube(cube, DOC_SCHEME, expected + DOC_TABLE[3:], 4 if inner else 3)

    def test_an_exception_that_leaves_both(self):
        cube = self.changed()
        with self.assertRaises(KeyError):
            with cube.trying():
                cube.put((0, 1), 10)
                with cube.trying():
                    cube.put((0, 1), 10)
                    raise KeyError("both")
        self.assert_way_back(cube)

    def test_a_block_begins_when_it_is_entered(self):
        cube = Cube(DOC_SCHEME, DOC_TABLE)
        manager = cube.trying()
        cube.put((0, 0), 1)
        cube.put((0, 0), 1)
        with self.assertRaises(KeyError):
            with manager:
                cube.put((0, 0), 1)
                raise KeyError("why")
        self.assert_cube(cube, DOC_SCHEME, (3,) + DOC_TABLE[1:], 2)

    def test_a_manager_used_again(self):
        cube = self.changed()
        manager = cube.trying()
        for turn in range(3):
            with self.assertRaises(KeyError):
                with manager:
                    cube.put((0, 1), 10)
                    with manager:
                        cube.put((0, 1), 10)
                    raise KeyError("why")
            self.assert_cube(cube, DOC_SCHEME, (3,) + DOC_TABLE[1:], 2)
            with manager:
                cube.put((0, 1), 1)
            cube.undo()
        self.assert_way_back(cube)

    def test_only_this_cube(self):
        cube, other = self.changed(), self.changed()
        with self.assertRaises(KeyError):
            with cube.trying():
                other.put((0, 1), 10)
                raise KeyError("why")
        self.assert_way_back(cube)
        self.assert_cube(other, DOC_SCHEME, (3, 10) + DOC_TABLE[2:], 3)


class AgainTest(CubeCase):

    def test_asked_again(self):
        for scheme in SCHEMES:
            cube = Cube(scheme, tables(scheme)[2])
            cube.put(finest_cells(scheme)[-1], 3)
            before = parts_of(cube)
            for turn in range(2):
                self.assertEqual(state_of(cube), state_of(cube))
                for rollup in plain_rollups(scheme):
                    self.assert_same(cube[rollup], cube[rollup])
                for cell in plain_cells(scheme, (0,) * len(scheme)):
                    self.assertIs(cell in cube, cell in cube)
            self.assertEqual(parts_of(cube), before)


if __name__ == "__main__":
    unittest.main()
