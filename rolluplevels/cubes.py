"""Cubes: tables that amounts are put into, with the way back."""

from rolluplevels.errors import CubeError, MatchError, NumberError
from rolluplevels.history import Trying, take_back
from rolluplevels.schemes import check_rollup, check_scheme, finest, is_cell, place_of
from rolluplevels.tables import check_put, check_table, no_amounts, sums_at, with_more
from rolluplevels.values import is_number_from, written

MOST_TIMES = 1000


class Cube:
    """A table of a scheme. Its states are the tables that it had, with the present one at the end."""

    def __init__(self, scheme, table=None):
        check_scheme(scheme)
        if table is not None:
            check_table(scheme, table)
        self.attributes = scheme
        self.states = [no_amounts(scheme, finest(scheme)) if table is None else table]

    @property
    def scheme(self):
        """The scheme of the table."""
        return self.attributes

    @property
    def table(self):
        """The present table."""
        return self.states[-1]

    @table.setter
    def table(self, value):
        self.assign_table(value)

    @property
    def total(self):
        """The sum of all amounts."""
        return sum(self.states[-1])

    @property
    def changes(self):
        """The number of puts and assignments that have not been taken back."""
        return len(self.states) - 1

    def assign_table(self, table):
        """Replace the table by another one."""
        check_table(self.attributes, table)
        self.states.append(table)

    def put(self, cell, amount):
        """Add the amount to that of a cell of the finest rollup."""
        check_put(self.attributes, cell, amount)
        self.states.append(with_more(self.attributes, finest(self.attributes), self.states[-1], cell, amount))

    def __call__(self, cell, amount):
        self.put(cell, amount)

    def __getitem__(self, at):
        check_rollup(self.attributes, at)
        return sums_at(self.attributes, self.states[-1], at)

    def __iter__(self):
        # Otherwise Python would try the integers from 0 on as rollups.
        raise TypeError("a cube is not iterated over")

    def __add__(self, other):
        self.check_alike(other)
        return Cube(self.attributes, tuple([
            amount + further for amount, further in zip(self.states[-1], other.states[-1])
        ]))

    def __sub__(self, other):
        self.check_alike(other)
        return Cube(self.attributes, tuple([
            amount - further for amount, further in zip(self.states[-1], other.states[-1])
        ]))

    # Python asks these where what stands on the left does not know how to add or subtract: so that is no cube.

    def __radd__(self, other):
        raise CubeError("what the cube is added to is no cube")

    def __rsub__(self, other):
        raise CubeError("what the cube is subtracted from is no cube")

    def __mul__(self, other):
        if not is_number_from(other, -MOST_TIMES, MOST_TIMES):
            raise NumberError("a cube is multiplied by up to a thousand")
        return Cube(self.attributes, tuple([amount * other for amount in self.states[-1]]))

    def __contains__(self, x):
        if not is_cell(self.attributes, finest(self.attributes), x):
            return False
        return self.states[-1][place_of(self.attributes, finest(self.attributes), x)] != 0

    def __len__(self):
        return len([amount for amount in self.states[-1] if amount != 0])

    def __eq__(self, other):
        return isinstance(other, Cube) and self.scheme == other.scheme and self.table == other.table

    def __repr__(self):
        return f"Cube({len(self)} cells, total {written(self.total)})"

    def check_alike(self, other):
        """Raise CubeError unless other is a cube, and MatchError unless it has the same scheme."""
        if not isinstance(other, Cube):
            raise CubeError("this is no cube")
        if self.attributes != other.attributes:
            raise MatchError("the cubes have different schemes")

    @classmethod
    def single(cls, scheme, cell, amount):
        """A cube with one amount at a cell of the finest rollup."""
        check_scheme(scheme)
        check_put(scheme, cell, amount)
        return cls(scheme, with_more(scheme, finest(scheme), no_amounts(scheme, finest(scheme)), cell, amount))

    @staticmethod
    def summed(cubes):
        """The sum of one or more cubes of the same scheme, as a new cube."""
        if not isinstance(cubes, tuple) or len(cubes) == 0:
            raise CubeError("this is no tuple of one or more cubes")
        for cube in cubes:
            if not isinstance(cube, Cube):
                raise CubeError("one of these is no cube")
        first = cubes[0]
        for cube in cubes:
            first.check_alike(cube)
        tables = [cube.table for cube in cubes]
        return Cube(first.scheme, tuple([sum(amounts) for amounts in zip(*tables)]))

    def undo(self):
        """Take back the last put or assignment that has not been taken back."""
        take_back(self.states)

    def trying(self):
        """A context manager: an exception that leaves its block takes back all that was done there."""
        return Trying(self)
