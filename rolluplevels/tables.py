"""Tables of a scheme, and their sums at its rollups."""

from rolluplevels.errors import AmountError, SumsError, TableError
from rolluplevels.schemes import check_cell, check_order, check_rollup, check_rollup_of, check_scheme, count_of_cells
from rolluplevels.schemes import finest, group_count, groups_above, groups_in, place_of, size_of
from rolluplevels.values import are_integers, is_number_from

MOST_PUT = 1000000


def are_amounts(scheme, rollup, thing):
    """Whether any value is a tuple with an integer for each cell of the rollup."""
    return are_integers(thing, size_of(scheme, rollup))


def is_table_of(scheme, thing):
    """As is_table, of a checked scheme."""
    return are_integers(thing, count_of_cells(scheme))


def turned(amounts, attribute, level, higher):
    """The amounts, added up to the higher level of the last attribute, in the order in which it is the first."""
    if level == higher:
        many = group_count(attribute, level)
        if many == 1 or many == len(amounts):
            return amounts
        return [amount for at in range(many) for amount in amounts[at::many]]
    groups = groups_above(attribute, level, higher)
    many = len(groups)
    joined = [
        [amounts[at::many] for at, found in enumerate(groups) if found == group] for group in range(max(groups) + 1)
    ]
    return [sum(parts) for columns in joined for parts in zip(*columns)]


def added_up(scheme, rollup, amounts, other):
    """As rolled, of checked arguments."""
    if rollup == other:
        return amounts
    # Each turn adds up all amounts over one attribute at once, and leaves the one before it as the last. When
    # each attribute has had its turn, they stand in their own order again.
    found = amounts
    for at in range(len(scheme) - 1, -1, -1):
        found = turned(found, scheme[at], rollup[at], other[at])
    return tuple(found)


def sums_at(scheme, table, rollup):
    """As sums, of checked arguments."""
    return added_up(scheme, finest(scheme), table, rollup)


def no_amounts(scheme, rollup):
    """The amount 0 for each cell of the rollup."""
    return (0,) * size_of(scheme, rollup)


def with_more(scheme, rollup, amounts, cell, amount):
    """The amounts at the rollup, with so much more at one of its cells."""
    place = place_of(scheme, rollup, cell)
    return (*amounts[:place], amounts[place] + amount, *amounts[place + 1:])


def sum_in_cell(scheme, rollup, amounts, other, cell):
    """The sum at one cell of other, a rollup that rollup is at least as fine as."""
    places = [0]
    for attribute, level, higher, group in zip(scheme, rollup, other, cell):
        many = group_count(attribute, level)
        inside = groups_in(attribute, level, higher, group)
        places = [place * many + at for place in places for at in inside]
    return sum([amounts[place] for place in places])


def check_put(scheme, cell, amount):
    """Check a cell of the finest rollup, and an amount that is to be put there."""
    check_cell(scheme, finest(scheme), cell)
    if not is_number_from(amount, -MOST_PUT, MOST_PUT):
        raise AmountError("only up to a million can be put in or taken out at once")


def check_table(scheme, table):
    """Raise TableError unless it is a table of the scheme."""
    if not is_table_of(scheme, table):
        raise TableError("this is no table of the scheme")


def check_amounts(scheme, rollup, amounts):
    """Raise SumsError unless they are an integer for each cell of the rollup."""
    if not are_amounts(scheme, rollup, amounts):
        raise SumsError("these are not an integer for each cell of the rollup")


def is_table(scheme, thing):
    """Whether any value is a table of the scheme."""
    check_scheme(scheme)
    return is_table_of(scheme, thing)


def sums(scheme, table, rollup):
    """The sums of the table at the rollup."""
    check_scheme(scheme)
    check_table(scheme, table)
    check_rollup(scheme, rollup)
    return sums_at(scheme, table, rollup)


def rolled(scheme, rollup, amounts, other):
    """The sums at other of the tables that have the amounts as their sums at rollup."""
    check_rollup_of(scheme, rollup)
    check_amounts(scheme, rollup, amounts)
    check_rollup(scheme, other)
    check_order(rollup, other)
    return added_up(scheme, rollup, amounts, other)
