"""What the sums at stored rollups determine, and two tables that show what they do not."""

from rolluplevels.schemes import check_cell, check_rollup, check_rollup_of, check_scheme, check_stored
from rolluplevels.schemes import finest, groups_above, has_levels_up_to, is_last
from rolluplevels.tables import is_table_of, sum_in_cell, sums_at
from rolluplevels.values import is_number_below, is_told


def first_fine(stored, wanted):
    """The first position of a stored rollup that is at least as fine as the wanted one; None if there is none."""
    for place, rollup in enumerate(stored):
        if has_levels_up_to(rollup, wanted):
            return place
    return None


def is_fine_place(stored, wanted, thing):
    """Whether any value is the position of a stored rollup that is at least as fine as the wanted one."""
    return is_number_below(thing, len(stored)) and has_levels_up_to(stored[thing], wanted)


def level_values(attribute, level):
    """The first two values that the next level puts together and this one does not; 0 at the last level."""
    if is_last(attribute, level):
        return (0,)
    here = groups_above(attribute, 0, level)
    step = attribute[1][level]
    pairs = [
        (a, b) for a in range(len(here)) for b in range(a + 1, len(here))
        if here[a] != here[b] and step[here[a]] == step[here[b]]
    ]
    return pairs[0]


def group_values(attribute, level, group):
    """The least value in the group, and the least one that only the next level puts together with it."""
    here = groups_above(attribute, 0, level)
    first = here.index(group)
    if is_last(attribute, level):
        return (first,)
    step = attribute[1][level]
    return (first, min([b for b, found in enumerate(here) if found != group and step[found] == step[group]]))


def marks_of(attribute, taken):
    """For each value 1 if it is the first one that is taken, -1 if it is the second one, otherwise 0."""
    return [0 if value not in taken else 1 if value == taken[0] else -1 for value in range(attribute[0])]


def two_tables(scheme, taken):
    """Two tables, made of the one or two values that are taken for each attribute."""
    # The product of a cell's marks is 1 with an even number of second values, and -1 with an odd one.
    products = [1]
    for attribute, values in zip(scheme, taken):
        marks = marks_of(attribute, values)
        products = [product * mark for product in products for mark in marks]
    one = tuple([1 if product == 1 else 0 for product in products])
    other = tuple([1 if product == -1 else 0 for product in products])
    return (one, other)


def tables_for_rollup(scheme, wanted):
    """Two tables with the same sums at all rollups that are not as fine as the wanted one, but not at this."""
    return two_tables(scheme, [level_values(attribute, level) for attribute, level in zip(scheme, wanted)])


def tables_for_cell(scheme, levels, groups):
    """The same, for the sum at one cell: of the rollup and the cell that kept_cell returns."""
    return two_tables(scheme, [
        group_values(attribute, level, group) for attribute, level, group in zip(scheme, levels, groups)
    ])


def differences(scheme, thing):
    """The amounts of one less those of other, for ("tables", one, other) with two tables; otherwise None."""
    if not is_told(thing, "tables", 3):
        return None
    word, one, other = thing
    if not is_table_of(scheme, one) or not is_table_of(scheme, other):
        return None
    return tuple([amount - further for amount, further in zip(one, other)])


def are_alike(scheme, stored, less):
    """Whether two tables with these differences have the same sums at all stored rollups."""
    for rollup in stored:
        if any(sums_at(scheme, less, rollup)):
            return False
    return True


def group_kept(attribute, level, group):
    """The level and the group to which a group leads as long as it is kept at the next level."""
    at = level
    found = group
    for step in attribute[1][level:]:
        if step.count(step[found]) > 1:
            break
        at = at + 1
        found = step[found]
    return (at, found)


def kept_cell(scheme, rollup, cell):
    """As own_cell, of checked arguments."""
    kept = [group_kept(attribute, level, group) for attribute, level, group in zip(scheme, rollup, cell)]
    return (tuple([level for level, group in kept]), tuple([group for level, group in kept]))


def check_stored_and_wanted(scheme, stored, wanted):
    """Check a scheme, several stored rollups of it and a wanted one."""
    check_scheme(scheme)
    check_stored(scheme, stored)
    check_rollup(scheme, wanted)


def answer(scheme, stored, wanted):
    """A stored rollup that is as fine as the wanted one, or two tables that only the wanted sums tell apart."""
    check_stored_and_wanted(scheme, stored, wanted)
    place = first_fine(stored, wanted)
    if place is not None:
        return ("from", place)
    one, other = tables_for_rollup(scheme, wanted)
    return ("tables", one, other)


def shows_answer(scheme, stored, wanted, thing):
    """Whether any value shows that the wanted sums are determined by the stored ones, or that they are not."""
    check_stored_and_wanted(scheme, stored, wanted)
    if is_told(thing, "from", 2):
        return is_fine_place(stored, wanted, thing[1])
    less = differences(scheme, thing)
    if less is None or not are_alike(scheme, stored, less):
        return False
    return any(sums_at(scheme, less, wanted))


def own_cell(scheme, rollup, cell):
    """The coarsest rollup, and its cell, that kept groups lead to: it has the same cells of the finest one."""
    check_rollup_of(scheme, rollup)
    check_cell(scheme, rollup, cell)
    return kept_cell(scheme, rollup, cell)


def answer_cell(scheme, stored, wanted, cell):
    """As answer, for the sum at one cell of the wanted rollup."""
    check_stored_and_wanted(scheme, stored, wanted)
    check_cell(scheme, wanted, cell)
    levels, groups = kept_cell(scheme, wanted, cell)
    place = first_fine(stored, levels)
    if place is not None:
        return ("from", place)
    one, other = tables_for_cell(scheme, levels, groups)
    return ("tables", one, other)


def shows_answer_cell(scheme, stored, wanted, cell, thing):
    """As shows_answer, for the sum at one cell of the wanted rollup."""
    check_stored_and_wanted(scheme, stored, wanted)
    check_cell(scheme, wanted, cell)
    if is_told(thing, "from", 2):
        levels, groups = kept_cell(scheme, wanted, cell)
        return is_fine_place(stored, levels, thing[1])
    less = differences(scheme, thing)
    if less is None or not are_alike(scheme, stored, less):
        return False
    return sum_in_cell(scheme, finest(scheme), less, wanted, cell) != 0
