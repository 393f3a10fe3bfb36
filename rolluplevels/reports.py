"""Reported sums: whether they agree, and a table that has them."""

from rolluplevels.errors import ReportError
from rolluplevels.schemes import cells_of, check_scheme, finest, greater_levels, is_rollup, least_value
from rolluplevels.tables import added_up, are_amounts, is_table_of, no_amounts, sums_at
from rolluplevels.values import are_integers, is_number_below, is_told

MOST_PIECES = 6


def is_piece(scheme, thing):
    """Whether any value is a piece of a report: a rollup, and an integer for each of its cells."""
    if not isinstance(thing, tuple) or len(thing) != 2:
        return False
    rollup, amounts = thing
    return is_rollup(scheme, rollup) and are_amounts(scheme, rollup, amounts)


def is_report(scheme, thing):
    """Whether any value is a report of the checked scheme."""
    if not isinstance(thing, tuple) or len(thing) > MOST_PIECES:
        return False
    return all([is_piece(scheme, part) for part in thing])


def check_report_of(scheme, report):
    """Check a scheme and a report of it."""
    check_scheme(scheme)
    if not is_report(scheme, report):
        raise ReportError("this is no report of the scheme")


def differing_cells(scheme, one, other):
    """The cells, at the finest rollup that both pieces are as fine as, at which their sums differ."""
    common = greater_levels(one[0], other[0])
    ones = added_up(scheme, one[0], one[1], common)
    others = added_up(scheme, other[0], other[1], common)
    return [cell for cell, amount, further in zip(cells_of(scheme, common), ones, others) if amount != further]


def first_clash(scheme, report):
    """As clash, of checked arguments."""
    for second in range(len(report)):
        for first in range(second):
            differing = differing_cells(scheme, report[first], report[second])
            if differing:
                return (first, second, differing[0])
    return None


def least_cell(scheme, rollup, cell):
    """The cell of the finest rollup with the least values of the cell's groups."""
    return tuple([
        least_value(attribute, level, group) for attribute, level, group in zip(scheme, rollup, cell)
    ])


def with_sums(scheme, table, rollup, amounts):
    """The table, changed so that it has the amounts as its sums at the rollup."""
    # Each change is made at one cell, chosen for each attribute by itself. So the sums at any other rollup
    # change as those at the finest rollup that both are as fine as do, each of them at one cell within it.
    # These do not change at all where an earlier piece agrees with this one.
    present = sums_at(scheme, table, rollup)
    changes = {
        least_cell(scheme, rollup, cell): amount - before
        for cell, amount, before in zip(cells_of(scheme, rollup), amounts, present)
    }
    return tuple([
        amount + changes.get(cell, 0) for cell, amount in zip(cells_of(scheme, finest(scheme)), table)
    ])


def table_of(scheme, report):
    """A table with all reported sums, of pieces that agree."""
    table = no_amounts(scheme, finest(scheme))
    for rollup, amounts in report:
        table = with_sums(scheme, table, rollup, amounts)
    return table


def has_all_sums(scheme, report, thing):
    """Whether any value is a table with all reported sums."""
    if not is_table_of(scheme, thing):
        return False
    return all([sums_at(scheme, thing, rollup) == amounts for rollup, amounts in report])


def is_clash(scheme, report, thing):
    """Whether any value is ("clash", first, second, cell) with two pieces whose sums differ at the cell."""
    if not is_told(thing, "clash", 4):
        return False
    word, first, second, cell = thing
    if not is_number_below(first, len(report)) or not is_number_below(second, len(report)):
        return False
    return are_integers(cell, len(scheme)) and cell in differing_cells(scheme, report[first], report[second])


def clash(scheme, report):
    """The first two pieces that do not agree, and the first cell at which they differ; None if all agree."""
    check_report_of(scheme, report)
    return first_clash(scheme, report)


def fill(scheme, report):
    """A table with all reported sums, or what clashes."""
    check_report_of(scheme, report)
    found = first_clash(scheme, report)
    if found is not None:
        return ("clash", *found)
    return ("table", table_of(scheme, report))


def shows_fill(scheme, report, thing):
    """Whether any value shows a table with all reported sums, or a clash."""
    check_report_of(scheme, report)
    if is_told(thing, "table", 2):
        return has_all_sums(scheme, report, thing[1])
    return is_clash(scheme, report, thing)
