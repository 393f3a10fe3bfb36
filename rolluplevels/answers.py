"""What the sums at stored rollups determine, and two tables that show what they do not."""

from rolluplevels.schemes import cells_of, check_cell, check_rollup, check_rollup_of, check_scheme, check_stored
from rolluplevels.schemes import finest, groups_of_values, has_levels_up_to, is_last, least_value
from rolluplevels.tables import is_table_of, sum_in_cell, sums_at
from rolluplevels.values import is_number_below, is_told


def first_fine(stored, wanted):
    """The first position of a stored rollup that is at least as fine as the wanted one; None if there is none."""
    for place, rollup in enumerate(stored):
        if has_levels_up_to(rollup, wanted):
            return place
    return None


def is_fine_place(stored, wanted, thing):
    """Whether any value is the position of a stored rollup that is at least as fine as the wanted one."""
    return is_number_below(thing, len(stored)) and has_levels_up_to(stored[thing], wanted)


def level_values(attribute, level):
    """The first two values that the next level puts together and this one does not; 0 at the last level."""
    if is_last(attribute, level):
        return (0,)
    here = groups_of_values(attribute, level)
    there = groups_of_values(attribute, level + 1)
    pairs = [
        (a, b) for b in range(len(here)) for a in range(b)
        if here[a] != here[b] and there[a] == there[b]
    ]
    return min(pairs)


def group_values(attribute, level, group):
    """The least value in the group, and the least one that only the next level puts together with it."""
    first = least_value(attribute, level, group)
    if is_last(attribute, level):
        return (first,)
    here = groups_of_values(attribute, level)
    there = groups_of_values(attribute, level + 1)
    return (first, min([b for b in range(len(here)) if here[b] != group and there[b] == there[first]]))


def amount_of(taken, cell, odd):
    """1 if the cell has only taken values, and an odd or an even number of second ones; otherwise 0."""
    if not all([value in values for value, values in zip(cell, taken)]):
        return 0
    seconds = sum([values.index(value) for value, values in zip(cell, taken)])
    return 1 if seconds % 2 == odd else 0


def two_tables(scheme, taken):
    """Two tables, made of the one or two values that are taken for each attribute."""
    places = cells_of(scheme, finest(scheme))
    one = tuple([amount_of(taken, cell, 0) for cell in places])
    other = tuple([amount_of(taken, cell, 1) for cell in places])
    return (one, other)


def tables_for_rollup(scheme, wanted):
    """Two tables with the same sums at all rollups that are not as fine as the wanted one, but not at this."""
    return two_tables(scheme, [level_values(attribute, level) for attribute, level in zip(scheme, wanted)])


def tables_for_cell(scheme, levels, groups):
    """The same, for the sum at one cell: of the rollup and the cell that kept_cell returns."""
    return two_tables(scheme, [
        group_values(attribute, level, group) for attribute, level, group in zip(scheme, levels, groups)
    ])


def are_alike(scheme, stored, thing):
    """Whether any value is ("tables", one, other) with two tables that have the same stored sums."""
    if not is_told(thing, "tables", 3):
        return False
    word, one, other = thing
    if not is_table_of(scheme, one) or not is_table_of(scheme, other):
        return False
    return all([sums_at(scheme, one, rollup) == sums_at(scheme, other, rollup) for rollup in stored])


def group_kept(attribute, level, group):
    """The level and the group to which a group leads as long as it is kept at the next level."""
    at = level
    found = group
    for step in attribute[1][level:]:
        if step.count(step[found]) > 1:
            break
        at = at + 1
        found = step[found]
    return (at, found)


def kept_cell(scheme, rollup, cell):
    """As own_cell, of checked arguments."""
    kept = [group_kept(attribute, level, group) for attribute, level, group in zip(scheme, rollup, cell)]
    return (tuple([level for level, group in kept]), tuple([group for level, group in kept]))


def check_stored_and_wanted(scheme, stored, wanted):
    """Check a scheme, several stored rollups of it and a wanted one."""
    check_scheme(scheme)
    check_stored(scheme, stored)
    check_rollup(scheme, wanted)


def answer(scheme, stored, wanted):
    """A stored rollup that is as fine as the wanted one, or two tables that only the wanted sums tell apart."""
    check_stored_and_wanted(scheme, stored, wanted)
    place = first_fine(stored, wanted)
    if place is not None:
        return ("from", place)
    one, other = tables_for_rollup(scheme, wanted)
    return ("tables", one, other)


def shows_answer(scheme, stored, wanted, thing):
    """Whether any value shows that the wanted sums are determined by the stored ones, or that they are not."""
    check_stored_and_wanted(scheme, stored, wanted)
    if is_told(thing, "from", 2):
        return is_fine_place(stored, wanted, thing[1])
    if not are_alike(scheme, stored, thing):
        return False
    return sums_at(scheme, thing[1], wanted) != sums_at(scheme, thing[2], wanted)


def own_cell(scheme, rollup, cell):
    """The coarsest rollup, and its cell, that kept groups lead to: it has the same cells of the finest one."""
    check_rollup_of(scheme, rollup)
    check_cell(scheme, rollup, cell)
    return kept_cell(scheme, rollup, cell)


def answer_cell(scheme, stored, wanted, cell):
    """As answer, for the sum at one cell of the wanted rollup."""
    check_stored_and_wanted(scheme, stored, wanted)
    check_cell(scheme, wanted, cell)
    levels, groups = kept_cell(scheme, wanted, cell)
    place = first_fine(stored, levels)
    if place is not None:
        return ("from", place)
    one, other = tables_for_cell(scheme, levels, groups)
    return ("tables", one, other)


def shows_answer_cell(scheme, stored, wanted, cell, thing):
    """As shows_answer, for the sum at one cell of the wanted rollup."""
    check_stored_and_wanted(scheme, stored, wanted)
    check_cell(scheme, wanted, cell)
    if is_told(thing, "from", 2):
        levels, groups = kept_cell(scheme, wanted, cell)
        return is_fine_place(stored, levels, thing[1])
    if not are_alike(scheme, stored, thing):
        return False
    least = finest(scheme)
    return sum_in_cell(scheme, least, thing[1], wanted, cell) != sum_in_cell(scheme, least, thing[2], wanted, cell)
