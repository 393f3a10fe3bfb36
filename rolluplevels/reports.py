"""Reported sums: whether they agree, and a table that has them."""

from rolluplevels.errors import ReportError
from rolluplevels.schemes import cells_of, check_scheme, finest, greater_levels, groups_above, is_cell, is_rollup
from rolluplevels.tables import added_up, are_amounts, is_table_of, no_amounts, sum_in_cell, sums_at
from rolluplevels.values import is_number_below, is_told

MOST_PIECES = 6


def is_piece(scheme, thing):
    """Whether any value is a piece of a report: a rollup, and an integer for each of its cells."""
    if not isinstance(thing, tuple) or len(thing) != 2:
        return False
    rollup, amounts = thing
    return is_rollup(scheme, rollup) and are_amounts(scheme, rollup, amounts)


def is_report(scheme, thing):
    """Whether any value is a report of the checked scheme."""
    if not isinstance(thing, tuple) or len(thing) > MOST_PIECES:
        return False
    for part in thing:
        if not is_piece(scheme, part):
            return False
    return True


def check_report_of(scheme, report):
    """Check a scheme and a report of it."""
    check_scheme(scheme)
    if not is_report(scheme, report):
        raise ReportError("this is no report of the scheme")


def piece_sums(scheme, report, place, rollup, known):
    """The sums of a piece at a rollup that its own is at least as fine as; known are those that were asked before."""
    key = (place, rollup)
    if key not in known:
        own, amounts = report[place]
        known[key] = added_up(scheme, own, amounts, rollup)
    return known[key]


def first_clash(scheme, report):
    """As clash, of checked arguments."""
    known = {}
    for second in range(len(report)):
        for first in range(second):
            common = greater_levels(report[first][0], report[second][0])
            ones = piece_sums(scheme, report, first, common, known)
            others = piece_sums(scheme, report, second, common, known)
            if ones != others:
                places = [at for at, amount in enumerate(ones) if amount != others[at]]
                return (first, second, cells_of(scheme, common)[places[0]])
    return None


def least_places(scheme, rollup):
    """For each cell of the rollup, the position in a table of the cell with the least values of its groups."""
    places = [0]
    for attribute, level in zip(scheme, rollup):
        groups = groups_above(attribute, 0, level)
        leasts = [groups.index(group) for group in range(max(groups) + 1)]
        places = [place * attribute[0] + least for place in places for least in leasts]
    return places


def with_sums(scheme, table, rollup, amounts):
    """The table, changed so that it has the amounts as its sums at the rollup."""
    # Each change is made at one cell, chosen for each attribute by itself. So the sums at any other rollup
    # change as those at the finest rollup that both are as fine as do, each of them at one cell within it.
    # These do not change at all where an earlier piece agrees with this one.
    present = sums_at(scheme, table, rollup)
    if present == amounts:
        return table
    changed = list(table)
    for place, amount, before in zip(least_places(scheme, rollup), amounts, present):
        changed[place] = changed[place] + amount - before
    return tuple(changed)


def table_of(scheme, report):
    """A table with all reported sums, of pieces that agree."""
    table = no_amounts(scheme, finest(scheme))
    for rollup, amounts in report:
        table = with_sums(scheme, table, rollup, amounts)
    return table


def has_all_sums(scheme, report, thing):
    """Whether any value is a table with all reported sums."""
    if not is_table_of(scheme, thing):
        return False
    for rollup, amounts in report:
        if sums_at(scheme, thing, rollup) != amounts:
            return False
    return True


def is_difference(scheme, one, other, thing):
    """Whether any value is a cell, of the finest rollup that both pieces are as fine as, at which they differ."""
    common = greater_levels(one[0], other[0])
    if not is_cell(scheme, common, thing):
        return False
    return sum_in_cell(scheme, one[0], one[1], common, thing) != sum_in_cell(scheme, other[0], other[1], common, thing)


def is_clash(scheme, report, thing):
    """Whether any value is ("clash", first, second, cell) with two pieces whose sums differ at the cell."""
    if not is_told(thing, "clash", 4):
        return False
    word, first, second, cell = thing
    if not is_number_below(first, len(report)) or not is_number_below(second, len(report)):
        return False
    return is_difference(scheme, report[first], report[second], cell)


def clash(scheme, report):
    """The first two pieces that do not agree, and the first cell at which they differ; None if all agree."""
    check_report_of(scheme, report)
    return first_clash(scheme, report)


def fill(scheme, report):
    """A table with all reported sums, or what clashes."""
    check_report_of(scheme, report)
    found = first_clash(scheme, report)
    if found is not None:
        return ("clash", *found)
    return ("table", table_of(scheme, report))


def shows_fill(scheme, report, thing):
    """Whether any value shows a table with all reported sums, or a clash."""
    check_report_of(scheme, report)
    if is_told(thing, "table", 2):
        return has_all_sums(scheme, report, thing[1])
    return is_clash(scheme, report, thing)
