"""Which rollups are to be stored for wanted ones, and what they cost."""

from rolluplevels.errors import NumberError
from rolluplevels.schemes import check_scheme, check_stored, has_levels_up_to, rollups_of, size_of
from rolluplevels.values import is_integer

MOST_MORE = 2


def sizes_for(scheme, rollup, wanted):
    """The size of the rollup for each wanted one that it is at least as fine as; None for the others."""
    many = size_of(scheme, rollup)
    return [many if has_levels_up_to(rollup, other) else None for other in wanted]


def least_of(numbers):
    """The least of the numbers, of which some may be None; None if there is no other."""
    return min([number for number in numbers if number is not None], default=None)


def least_sizes(rows, wanted):
    """For each wanted rollup the least of the sizes that the rows have for it; None if they have none."""
    return [least_of([row[at] for row in rows]) for at in range(len(wanted))]


def stored_sizes(scheme, stored, wanted):
    """For each wanted rollup the least size of a stored one that is at least as fine; None if there is none."""
    return least_sizes([sizes_for(scheme, rollup, wanted) for rollup in stored], wanted)


def total_of(sizes):
    """The sum of the sizes; None if one of them is None."""
    return None if None in sizes else sum(sizes)


def selections(ascending, many):
    """The ascending tuples of one or two different ones of the rollups, which are ascending themselves."""
    if many == 1:
        return [(rollup,) for rollup in ascending]
    return [(one, other) for one in ascending for other in ascending if one < other]


def check_many(many):
    """Raise NumberError unless it is a number of rollups that best may choose."""
    if not is_integer(many) or not 1 <= many <= MOST_MORE:
        raise NumberError("one or two rollups can be chosen")


def check_stored_and_all_wanted(scheme, stored, wanted):
    """Check a scheme, several stored rollups of it and several wanted ones."""
    check_scheme(scheme)
    check_stored(scheme, stored)
    check_stored(scheme, wanted)


def needed(scheme, wanted):
    """The wanted rollups, ascending and each once, for which no other wanted one is at least as fine."""
    check_scheme(scheme)
    check_stored(scheme, wanted)
    return tuple([
        rollup for rollup in sorted(set(wanted))
        if not any([other != rollup and has_levels_up_to(other, rollup) for other in wanted])
    ])


def cost(scheme, stored, wanted):
    """The sum of the least sizes of the stored rollups that are fine enough; None if there are none for one."""
    check_stored_and_all_wanted(scheme, stored, wanted)
    return total_of(stored_sizes(scheme, stored, wanted))


def best(scheme, stored, wanted, many):
    """The least cost with so many more rollups, and the first ones that have it; None if there are not so many."""
    check_stored_and_all_wanted(scheme, stored, wanted)
    check_many(many)
    known = stored_sizes(scheme, stored, wanted)
    rows = {rollup: sizes_for(scheme, rollup, wanted) for rollup in rollups_of(scheme)}
    costs = [
        (total_of(least_sizes([known] + [rows[rollup] for rollup in more], wanted)), more)
        for more in selections(list(rows), many)
    ]
    # Tuples are compared part by part: of those with the least cost, this is the one with the first rollups.
    return min([pair for pair in costs if pair[0] is not None], default=None)
