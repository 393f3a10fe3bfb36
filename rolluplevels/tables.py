"""Tables of a scheme, and their sums at its rollups."""

from rolluplevels.errors import SumsError, TableError
from rolluplevels.schemes import cell_above, cells_of, check_order, check_rollup, check_rollup_of, check_scheme
from rolluplevels.schemes import finest, size_of
from rolluplevels.values import are_integers


def are_amounts(scheme, rollup, thing):
    """Whether any value is a tuple with an integer for each cell of the rollup."""
    return are_integers(thing, size_of(scheme, rollup))


def is_table_of(scheme, thing):
    """As is_table, of a checked scheme."""
    return are_amounts(scheme, finest(scheme), thing)


def added_up(scheme, rollup, amounts, other):
    """As rolled, of checked arguments."""
    places = [cell_above(scheme, rollup, cell, other) for cell in cells_of(scheme, rollup)]
    return tuple([
        sum([amount for place, amount in zip(places, amounts) if place == cell])
        for cell in cells_of(scheme, other)
    ])


def sums_at(scheme, table, rollup):
    """As sums, of checked arguments."""
    return added_up(scheme, finest(scheme), table, rollup)


def check_table(scheme, table):
    """Raise TableError unless it is a table of the scheme."""
    if not is_table_of(scheme, table):
        raise TableError("this is no table of the scheme")


def check_amounts(scheme, rollup, amounts):
    """Raise SumsError unless they are an integer for each cell of the rollup."""
    if not are_amounts(scheme, rollup, amounts):
        raise SumsError("these are not an integer for each cell of the rollup")


def is_table(scheme, thing):
    """Whether any value is a table of the scheme."""
    check_scheme(scheme)
    return is_table_of(scheme, thing)


def sums(scheme, table, rollup):
    """The sums of the table at the rollup."""
    check_scheme(scheme)
    check_table(scheme, table)
    check_rollup(scheme, rollup)
    return sums_at(scheme, table, rollup)


def rolled(scheme, rollup, amounts, other):
    """The sums at other of the tables that have the amounts as their sums at rollup."""
    check_rollup_of(scheme, rollup)
    check_amounts(scheme, rollup, amounts)
    check_rollup(scheme, other)
    check_order(rollup, other)
    return added_up(scheme, rollup, amounts, other)
