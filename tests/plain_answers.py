"""Plain reckonings of what is determined, to compare the program with."""

import itertools

from samples import level_of_values, plain_cells, plain_fine, plain_groups


def plain_places(stored, wanted):
    return [place for place in range(len(stored)) if plain_fine(stored[place], wanted)]


def plain_pair(attribute, level):
    """The values that [30] takes for an attribute."""
    many, steps = attribute
    if level == len(steps):
        return (0,)
    here, there = level_of_values(attribute, level), level_of_values(attribute, level + 1)
    return next(
        (a, b) for a, b in itertools.combinations(range(many), 2) if here[a] != here[b] and there[a] == there[b]
    )


def plain_group_pair(attribute, level, group):
    """The values that [32] takes for an attribute, with the level and the group of own_cell."""
    many, steps = attribute
    members = [value for value in range(many) if level_of_values(attribute, level)[value] == group]
    if level == len(steps):
        return (members[0],)
    there = level_of_values(attribute, level + 1)
    around = [value for value in range(many) if there[value] == there[members[0]] and value not in members]
    return (members[0], around[0])


def plain_tables(scheme, pairs):
    """("tables", one, other), made of the values that are taken."""
    finest = plain_cells(scheme, (0,) * len(scheme))
    amounts = {0: {values: 0 for values in finest}, 1: {values: 0 for values in finest}}
    for places in itertools.product(*[range(len(pair)) for pair in pairs]):
        values = tuple(pair[place] for pair, place in zip(pairs, places))
        amounts[places.count(1) % 2][values] = 1
    return ("tables", tuple(amounts[0].values()), tuple(amounts[1].values()))


def plain_answer(scheme, stored, wanted):
    places = plain_places(stored, wanted)
    if places:
        return ("from", places[0])
    return plain_tables(scheme, [plain_pair(attribute, level) for attribute, level in zip(scheme, wanted)])


def plain_own(scheme, rollup, cell):
    """A group is kept if the group around it, of the next level, has the same values."""
    levels, groups = list(rollup), list(cell)
    for at, (many, steps) in enumerate(scheme):
        while levels[at] < len(steps):
            higher = levels[:at] + [levels[at] + 1] + levels[at + 1:]
            around = groups[:at] + [steps[levels[at]][groups[at]]] + groups[at + 1:]
            if plain_groups(scheme, higher, around) != plain_groups(scheme, levels, groups):
                break
            levels, groups = higher, around
    return (tuple(levels), tuple(groups))


def plain_answer_cell(scheme, stored, wanted, cell):
    levels, groups = plain_own(scheme, wanted, cell)
    places = plain_places(stored, levels)
    if places:
        return ("from", places[0])
    return plain_tables(scheme, [plain_group_pair(*given) for given in zip(scheme, levels, groups)])
