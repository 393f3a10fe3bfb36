"""Sample values for the tests, and plain reckonings to compare the program with."""

import itertools
import random

from rolluplevels import errors
from rolluplevels.cubes import Cube
from rolluplevels.stores import Frugal, Lean, LeanFrugal, Store

DOC_SCHEME = ((4, ((0, 0, 1, 1), (0, 0))), (3, ((0, 1, 1),)))
DOC_TABLE = (1, 0, 2, 0, 3, 0, 1, 1, 1, 0, 0, 5)

SINGLE = ((1, ()),)
FLAT = ((6, ()),)
DEEP = ((6, ((0, 1, 2, 3, 1, 0), (2, 0, 1, 0), (1, 0, 1))),)
CROSSED = ((3, ((1, 0, 1), (0, 0))), (2, ()))
MIXED = ((1, ()), (4, ((2, 0, 1, 0), (0, 1, 1), (0, 0))))
TRIPLE = ((2, ((0, 0),)), (3, ()), (4, ((1, 1, 0, 2), (0, 1, 0))))
SIXTY = ((5, ((0, 0, 1, 1, 2), (0, 1, 1))), (6, ((0, 1, 2, 0, 1, 2), (0, 0, 0))), (2, ()))
STEPS_THREE = ((5, ((3, 2, 1, 0, 3), (0, 1, 2, 0), (1, 0, 0))), (3, ((0, 0, 1), (0, 0))))
# The value 0 stays alone up to the last level, the value 3 for one step, the value 4 for one step.
KEPT = ((5, ((0, 1, 1, 2, 3), (0, 1, 2, 2), (0, 1, 1))), (2, ((0, 0),)))

SCHEMES = (DOC_SCHEME, SINGLE, FLAT, DEEP, CROSSED, MIXED, TRIPLE, SIXTY, STEPS_THREE, KEPT)

# As many rollups as a scheme can have: 48. It is no part of SCHEMES, for which all pairs are tried.
MANY_ROLLUPS = (
    (4, ((0, 1, 2, 0), (1, 0, 1), (0, 0))), (4, ((2, 1, 0, 0), (0, 0, 1), (0, 0))), (3, ((0, 0, 1), (0, 0))),
)

# As many cells and as many rollups as a scheme can have: 60 and 48.
LARGEST = (
    (5, ((0, 1, 2, 3, 3), (0, 0, 1, 1), (0, 0))), (4, ((0, 1, 2, 2), (0, 1, 1), (0, 0))), (3, ((0, 1, 1), (0, 0))),
)

HUGE = 7 ** 6000


def nested(depth):
    """A value that is nested so deep, of tuples and lists in turn."""
    thing = 0
    for level in range(depth):
        thing = (thing,) if level % 2 else [thing]
    return thing


def package_objects():
    """Objects of the package, some of them with changes and some without."""
    cube, store = Cube(DOC_SCHEME, DOC_TABLE), Store(DOC_SCHEME, (1, 1), (0, 0))
    cube.put((0, 0), 1)
    store.put((0, 0), 1)
    return [
        Cube(SINGLE), cube, cube.trying(), store, store.trying(), Lean(SINGLE, (0,)), Frugal(DOC_SCHEME, (1, 1)),
        LeanFrugal(DOC_SCHEME, (2, 1), most=2),
    ]


def other_kinds():
    """Values of every kind that callers may pass: none is a scheme, a rollup, a cell or a table."""
    return package_objects() + [
        tuple(package_objects()), [Cube(SINGLE)], (Cube(SINGLE),), (Store(SINGLE, (0,)),), (0, Cube(SINGLE)),
        {"cube": Cube(SINGLE)}, {Store(SINGLE, (0,)): 0}, (Cube(DOC_SCHEME),) * 12,
        0, 1, -1, 9_999_999_999_999, HUGE, True, False, None,
        "", "4 : 0 0 1 1 : 0 0\n", "(1, 1)", "x" * 2000,
        [], [1], [[4, [[0, 0, 1, 1]]]], list(DOC_SCHEME), [0, 0], [0, 0, 0], list(DOC_TABLE),
        ("a", "b"), (None, None), (None,), ("",), ((),), ((), ()), ({}, {}), ([], []), ("scheme",),
        (0, None), (0, "0"), (0, (0,)), ((0, 0),), (True, False), (0, False), (True,) * 12,
        {}, {0: 0}, {(4, ()): None}, {"many": 4, "steps": ()}, {0: 0, 1: 1},
        errors.SchemeError("no scheme"), errors.Unknown((0,), (1,)), errors.LimitError(9, 8),
        (errors.LevelsError("x"),), (errors.LevelsError("x"), errors.LevelsError("y")),
        nested(20), nested(19), (0,) * 8000, [0] * 8000, (None,) * 12,
    ]


def wrong_stored():
    """Values that are no tuples of up to eight rollups of the document's scheme."""
    return [thing for thing in other_kinds() if thing != ((0, 0),)] + [
        (0, 0), ((0, 0), (3, 0)), ((0, 2),), ((0, 0),) * 9, ((0, 0), (0, 0, 0)), ((0, 0), (1,)), ((0, 0), (1, True)),
        ((False, 0),), [(0, 0)], [], ([0, 0],), ((0, 0), None), (((0, 0),),), ("00",), {(0, 0): 0}, {0: (0, 0)},
        ((0, 0),) * 8 + (None,), ((-1, 0),), ((0, HUGE),),
    ]


def level_of_values(attribute, level):
    """For each value of the attribute, its group of the level."""
    many, steps = attribute
    groups = list(range(many))
    for step in steps[:level]:
        groups = [step[group] for group in groups]
    return groups


def plain_rollups(scheme):
    return list(itertools.product(*[range(len(steps) + 1) for many, steps in scheme]))


def plain_cells(scheme, rollup):
    """Every cell is the cell of some values: so the cells are those, each once."""
    groups = [level_of_values(attribute, level) for attribute, level in zip(scheme, rollup)]
    return sorted(set(itertools.product(*groups)))


def values_cell(scheme, rollup, values):
    """The cell of the rollup in which a cell of the finest rollup lies."""
    return tuple(
        level_of_values(attribute, level)[value] for attribute, level, value in zip(scheme, rollup, values)
    )


def plain_sums(scheme, table, rollup):
    totals = {cell: 0 for cell in plain_cells(scheme, rollup)}
    finest = itertools.product(*[range(many) for many, steps in scheme])
    for values, amount in zip(finest, table):
        totals[values_cell(scheme, rollup, values)] += amount
    return tuple(totals[cell] for cell in sorted(totals))


def plain_fine(one, other):
    return not [at for at in range(len(one)) if one[at] > other[at]]


def plain_groups(scheme, rollup, cell):
    """For each attribute, the set of the values in the cell's group."""
    return [
        {value for value, at in enumerate(level_of_values(attribute, level)) if at == group}
        for attribute, level, group in zip(scheme, rollup, cell)
    ]


def plain_coarser(one, other):
    return tuple(max(levels) for levels in zip(one, other))


def plain_rolled(scheme, rollup, amounts, other):
    """Each cell's amount is added to the cell of other in which any values of the cell lie."""
    totals = {cell: 0 for cell in plain_cells(scheme, other)}
    for cell, amount in zip(plain_cells(scheme, rollup), amounts):
        values = [min(group) for group in plain_groups(scheme, rollup, cell)]
        totals[values_cell(scheme, other, values)] += amount
    return tuple(totals[cell] for cell in sorted(totals))


def plain_is_integer(thing):
    return type(thing) is int


def plain_is_table(scheme, thing):
    return type(thing) is tuple and len(thing) == table_length(scheme) and all(map(plain_is_integer, thing))


def several(things, most, seed):
    """Tuples of up to most of the things: all of up to two, and some longer ones, also with equal ones."""
    chance = random.Random(seed)
    found = [()] + [(one,) for one in things] + list(itertools.product(things, repeat=2))
    for many in range(3, most + 1):
        found += [tuple(chance.choices(things, k=many)) for turn in range(4)]
    return found


def broken(thing):
    """A right value, without empty tuples, with one part of another kind, left out, added or misspelt."""
    yield None
    yield (thing,)
    if isinstance(thing, tuple):
        yield list(thing)
        yield dict(enumerate(thing))
        yield thing + (None,)
        yield thing + (0,)
        yield (0,) + thing
        yield thing + thing[-1:]
        yield thing[:-1]
        yield thing[1:]
        for at, part in enumerate(thing):
            for other in broken(part):
                yield thing[:at] + (other,) + thing[at + 1:]
    elif isinstance(thing, str):
        yield from ("", thing + " ", thing.upper(), thing[:-1], list(thing), 0, True)
    else:
        yield from (bool(thing), not thing, str(thing), [thing], {thing: thing})


def table_length(scheme):
    length = 1
    for many, steps in scheme:
        length *= many
    return length


def tables(scheme):
    """Tables with amounts below 0, of 0, great ones, and ones that no two cells share."""
    length = table_length(scheme)
    return [
        (0,) * length,
        tuple(3 ** at for at in range(length)),
        tuple((-1) ** at * (at * at % 7) for at in range(length)),
        tuple(-9_999_999_999_999 + at for at in range(length)),
        tuple(HUGE * (at % 3 - 1) + at for at in range(length)),
    ]


def same_kind(one, other):
    """Whether the values are equal, and of the same kinds throughout."""
    if type(one) is not type(other):
        return False
    if isinstance(one, (tuple, list)):
        return len(one) == len(other) and all(same_kind(a, b) for a, b in zip(one, other))
    return one == other
