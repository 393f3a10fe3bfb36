"""Sample values for the tests, and plain reckonings to compare the program with."""

import itertools

from rolluplevels import errors

DOC_SCHEME = ((4, ((0, 0, 1, 1), (0, 0))), (3, ((0, 1, 1),)))
DOC_TABLE = (1, 0, 2, 0, 3, 0, 1, 1, 1, 0, 0, 5)

SINGLE = ((1, ()),)
FLAT = ((6, ()),)
DEEP = ((6, ((0, 1, 2, 3, 1, 0), (2, 0, 1, 0), (1, 0, 1))),)
CROSSED = ((3, ((1, 0, 1), (0, 0))), (2, ()))
MIXED = ((1, ()), (4, ((2, 0, 1, 0), (0, 1, 1), (0, 0))))
TRIPLE = ((2, ((0, 0),)), (3, ()), (4, ((1, 1, 0, 2), (0, 1, 0))))
SIXTY = ((5, ((0, 0, 1, 1, 2), (0, 1, 1))), (6, ((0, 1, 2, 0, 1, 2), (0, 0, 0))), (2, ()))
STEPS_THREE = ((5, ((3, 2, 1, 0, 3), (0, 1, 2, 0), (1, 0, 0))), (3, ((0, 0, 1), (0, 0))))

SCHEMES = (DOC_SCHEME, SINGLE, FLAT, DEEP, CROSSED, MIXED, TRIPLE, SIXTY, STEPS_THREE)

HUGE = 7 ** 6000


def nested(depth):
    """A value that is nested so deep, of tuples and lists in turn."""
    thing = 0
    for level in range(depth):
        thing = (thing,) if level % 2 else [thing]
    return thing


def other_kinds():
    """Values of every kind that callers may pass: none is a scheme, a rollup, a cell or a table."""
    return [
        0, 1, -1, 9_999_999_999_999, HUGE, True, False, None,
        "", "4 : 0 0 1 1 : 0 0\n", "(1, 1)", "x" * 2000,
        [], [1], [[4, [[0, 0, 1, 1]]]], list(DOC_SCHEME), [0, 0], [0, 0, 0], list(DOC_TABLE),
        ("a", "b"), (None, None), (None,), ("",), ((),), ((), ()), ({}, {}), ([], []), ("scheme",),
        (0, None), (0, "0"), (0, (0,)), ((0, 0),), (True, False), (0, False), (True,) * 12,
        {}, {0: 0}, {(4, ()): None}, {"many": 4, "steps": ()}, {0: 0, 1: 1},
        errors.SchemeError("no scheme"), errors.Unknown((0,), (1,)), errors.LimitError(9, 8),
        (errors.LevelsError("x"),), (errors.LevelsError("x"), errors.LevelsError("y")),
        nested(20), nested(19), (0,) * 8000, [0] * 8000, (None,) * 12,
    ]


def level_of_values(attribute, level):
    """For each value of the attribute, its group of the level."""
    many, steps = attribute
    groups = list(range(many))
    for step in steps[:level]:
        groups = [step[group] for group in groups]
    return groups


def plain_rollups(scheme):
    return list(itertools.product(*[range(len(steps) + 1) for many, steps in scheme]))


def plain_cells(scheme, rollup):
    """Every cell is the cell of some values: so the cells are those, each once."""
    groups = [level_of_values(attribute, level) for attribute, level in zip(scheme, rollup)]
    return sorted(set(itertools.product(*groups)))


def values_cell(scheme, rollup, values):
    """The cell of the rollup in which a cell of the finest rollup lies."""
    return tuple(
        level_of_values(attribute, level)[value] for attribute, level, value in zip(scheme, rollup, values)
    )


def plain_sums(scheme, table, rollup):
    totals = {cell: 0 for cell in plain_cells(scheme, rollup)}
    finest = itertools.product(*[range(many) for many, steps in scheme])
    for values, amount in zip(finest, table):
        totals[values_cell(scheme, rollup, values)] += amount
    return tuple(totals[cell] for cell in sorted(totals))


def plain_fine(one, other):
    return not [at for at in range(len(one)) if one[at] > other[at]]


def table_length(scheme):
    length = 1
    for many, steps in scheme:
        length *= many
    return length


def tables(scheme):
    """Tables with amounts below 0, of 0, great ones, and ones that no two cells share."""
    length = table_length(scheme)
    return [
        (0,) * length,
        tuple(3 ** at for at in range(length)),
        tuple((-1) ** at * (at * at % 7) for at in range(length)),
        tuple(-9_999_999_999_999 + at for at in range(length)),
        tuple(HUGE * (at % 3 - 1) + at for at in range(length)),
    ]


def same_kind(one, other):
    """Whether the values are equal, and of the same kinds throughout."""
    if type(one) is not type(other):
        return False
    if isinstance(one, (tuple, list)):
        return len(one) == len(other) and all(same_kind(a, b) for a, b in zip(one, other))
    return one == other
