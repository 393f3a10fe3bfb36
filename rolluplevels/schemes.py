"""Schemes, their rollups and the cells of these.

The functions of the interface check their arguments. The helpers above them take the arguments as
checked, so that the package does not check the same scheme again for each cell.
"""

from rolluplevels.errors import CellError, OrderError, RollupError, SchemeError, StoredError
from rolluplevels.values import are_numbers_below, is_number_from

MOST_ATTRIBUTES = 3
MOST_VALUES = 6
MOST_STEPS = 3
MOST_CELLS = 60
MOST_STORED = 8


def groups_of_step(thing, below):
    """The number of groups to which a step from so many groups leads; 0 if thing is no such step."""
    if not isinstance(thing, tuple) or len(thing) != below:
        return 0
    seen = 0
    for part in thing:
        if not isinstance(part, int) or part is True or part is False or not 0 <= part < below:
            return 0
        # A bit for each group that occurs: so it takes no sorting to see whether one is left out.
        seen = seen | 1 << part
    many = seen.bit_length()
    return many if many < below and seen + 1 == 1 << many else 0


def is_attribute(thing):
    """Whether thing is an attribute."""
    if not isinstance(thing, tuple) or len(thing) != 2:
        return False
    many, steps = thing
    if not is_number_from(many, 1, MOST_VALUES) or not isinstance(steps, tuple) or len(steps) > MOST_STEPS:
        return False
    below = many
    for step in steps:
        below = groups_of_step(step, below)
        if below == 0:
            return False
    return True


def choices(counts):
    """The tuples with a number from 0 on below each of the counts, ascending."""
    rows = [()]
    for many in counts:
        rows = [(*row, number) for row in rows for number in range(many)]
    return rows


def count_of_cells(scheme):
    """The number of cells of the finest rollup."""
    product = 1
    for many, steps in scheme:
        product = product * many
    return product


def group_count(attribute, level):
    """The number of groups of a level."""
    many, steps = attribute
    return many if level == 0 else max(steps[level - 1]) + 1


def group_counts(scheme, rollup):
    """The number of groups of the rollup's level, for each attribute."""
    return [group_count(attribute, level) for attribute, level in zip(scheme, rollup)]


def group_above(attribute, level, group, higher):
    """The group of the higher level in which a group of the level lies."""
    found = group
    for step in attribute[1][level:higher]:
        found = step[found]
    return found


def groups_above(attribute, level, higher):
    """The group of the higher level for each group of the level, in order."""
    if level == higher:
        return list(range(group_count(attribute, level)))
    first, *others = attribute[1][level:higher]
    groups = list(first)
    for step in others:
        groups = [step[group] for group in groups]
    return groups


def groups_in(attribute, level, higher, group):
    """The groups of the level that lie in a group of the higher one, ascending."""
    return [at for at, found in enumerate(groups_above(attribute, level, higher)) if found == group]


def is_last(attribute, level):
    """Whether the attribute has no level behind this one."""
    return level == len(attribute[1])


def finest(scheme):
    """The rollup with the level 0 everywhere."""
    return (0,) * len(scheme)


def has_levels_up_to(one, other):
    """Whether each level of one is at most that of other."""
    for level, higher in zip(one, other):
        if level > higher:
            return False
    return True


def greater_levels(one, other):
    """As coarser, of checked arguments."""
    return tuple([level if level > further else further for level, further in zip(one, other)])


def rollups_of(scheme):
    """All rollups of a checked scheme, ascending."""
    return choices([len(steps) + 1 for many, steps in scheme])


def size_of(scheme, rollup):
    """As size, of checked arguments."""
    product = 1
    for attribute, level in zip(scheme, rollup):
        product = product * group_count(attribute, level)
    return product


def cells_of(scheme, rollup):
    """As cells, of checked arguments."""
    return tuple(choices(group_counts(scheme, rollup)))


def cell_above(scheme, rollup, cell, other):
    """As above, of checked arguments."""
    return tuple([
        group_above(attribute, level, group, higher)
        for attribute, level, group, higher in zip(scheme, rollup, cell, other)
    ])


def place_of(scheme, rollup, cell):
    """The position of a cell among all cells of the rollup."""
    place = 0
    for many, group in zip(group_counts(scheme, rollup), cell):
        place = place * many + group
    return place


def is_rollup(scheme, thing):
    """Whether any value is a rollup of the checked scheme."""
    if not isinstance(thing, tuple) or len(thing) != len(scheme):
        return False
    for part, (many, steps) in zip(thing, scheme):
        if not isinstance(part, int) or part is True or part is False or not 0 <= part <= len(steps):
            return False
    return True


def are_rollups(scheme, thing):
    """Whether any value is a tuple of rollups of the checked scheme, not more than may be stored."""
    if not isinstance(thing, tuple) or len(thing) > MOST_STORED:
        return False
    for part in thing:
        if not is_rollup(scheme, part):
            return False
    return True


def is_cell(scheme, rollup, thing):
    """Whether any value is a cell of the rollup."""
    return are_numbers_below(thing, group_counts(scheme, rollup))


def check_scheme(scheme):
    """Raise SchemeError unless it is a scheme."""
    if not is_scheme(scheme):
        raise SchemeError("this is no scheme")


def check_rollup(scheme, rollup):
    """Raise RollupError unless it is a rollup of the scheme."""
    if not is_rollup(scheme, rollup):
        raise RollupError("this is no rollup of the scheme")


def check_stored(scheme, stored):
    """Raise StoredError unless it is a tuple of rollups, not more than may be stored."""
    if not are_rollups(scheme, stored):
        raise StoredError("this is no tuple of up to eight rollups of the scheme")


def check_cell(scheme, rollup, cell):
    """Raise CellError unless it is a cell of the rollup."""
    if not is_cell(scheme, rollup, cell):
        raise CellError("this is no cell of the rollup")


def check_order(one, other):
    """Raise OrderError unless one is at least as fine as other."""
    if not has_levels_up_to(one, other):
        raise OrderError("the rollup is not at least as fine as the other one")


def check_rollup_of(scheme, rollup):
    """Check a scheme and a rollup of it."""
    check_scheme(scheme)
    check_rollup(scheme, rollup)


def check_two_rollups_of(scheme, one, other):
    """Check a scheme and two rollups of it."""
    check_rollup_of(scheme, one)
    check_rollup(scheme, other)


def is_scheme(thing):
    """Whether any value is a scheme."""
    if not isinstance(thing, tuple) or not 1 <= len(thing) <= MOST_ATTRIBUTES:
        return False
    for part in thing:
        if not is_attribute(part):
            return False
    return count_of_cells(thing) <= MOST_CELLS


def rollups(scheme):
    """Yield all rollups of the scheme, ascending."""
    check_scheme(scheme)
    yield from rollups_of(scheme)


def cells(scheme, rollup):
    """The tuple of all cells of the rollup, ascending."""
    check_rollup_of(scheme, rollup)
    return cells_of(scheme, rollup)


def size(scheme, rollup):
    """The number of cells of the rollup."""
    check_rollup_of(scheme, rollup)
    return size_of(scheme, rollup)


def is_fine(scheme, one, other):
    """Whether one is at least as fine as other."""
    check_two_rollups_of(scheme, one, other)
    return has_levels_up_to(one, other)


def finer(scheme, one, other):
    """The coarsest rollup that is at least as fine as both."""
    check_two_rollups_of(scheme, one, other)
    return tuple([min(level, further) for level, further in zip(one, other)])


def coarser(scheme, one, other):
    """The finest rollup that both are at least as fine as."""
    check_two_rollups_of(scheme, one, other)
    return greater_levels(one, other)


def above(scheme, rollup, cell, other):
    """The cell of other, a rollup that rollup is at least as fine as, in which the cell lies."""
    check_rollup_of(scheme, rollup)
    check_cell(scheme, rollup, cell)
    check_rollup(scheme, other)
    check_order(rollup, other)
    return cell_above(scheme, rollup, cell, other)
