"""Stores: the sums of some rollups, without the table that they belong to."""

from rolluplevels.answers import first_fine, kept_cell, tables_for_cell, tables_for_rollup
from rolluplevels.errors import LimitError, NumberError, PlaceError, RollupError, StoredError, Unknown
from rolluplevels.history import Trying, take_back
from rolluplevels.schemes import MOST_STORED, are_rollups, cell_above, check_cell, check_rollup, check_scheme, finest
from rolluplevels.schemes import has_levels_up_to, is_rollup
from rolluplevels.tables import added_up, check_put, no_amounts, sum_in_cell, with_more
from rolluplevels.values import is_number_below, is_number_from

USUAL_MOST = 60
GREATEST_MOST = 480


def count_of_sums(pieces):
    """The number of sums in all pieces."""
    return sum([len(amounts) for rollup, amounts in pieces])


def is_needed(stored, place):
    """Whether no other of the stored rollups is finer than the one at the place, and none before it is equal."""
    for at, rollup in enumerate(stored):
        if has_levels_up_to(rollup, stored[place]) and (rollup != stored[place] or at < place):
            return False
    return True


def check_room(pieces, most):
    """Raise LimitError if the pieces have more sums than may be kept."""
    many = count_of_sums(pieces)
    if many > most:
        raise LimitError(many, most)


class Store:
    """The sums of stored rollups. Its states are the reports that it had, with the present one at the end."""

    KIND = "Store"

    def __init__(self, scheme, *stored):
        check_scheme(scheme)
        if len(stored) == 0 or not are_rollups(scheme, stored):
            raise StoredError("these are not one to eight rollups of the scheme")
        self.attributes = scheme
        self.states = [tuple([(rollup, no_amounts(scheme, rollup)) for rollup in self.chosen(stored)])]

    @property
    def scheme(self):
        """The scheme of the rollups."""
        return self.attributes

    @property
    def stored(self):
        """The stored rollups."""
        return tuple([rollup for rollup, amounts in self.states[-1]])

    @property
    def report(self):
        """The stored rollups, each with its sums."""
        return self.states[-1]

    @property
    def changes(self):
        """The number of puts, keeps and drops that have not been taken back."""
        return len(self.states) - 1

    def chosen(self, stored):
        """Those of the rollups that are kept when the store is made."""
        return stored

    def put(self, cell, amount):
        """Add the amount at a cell of the finest rollup: to one sum of each stored rollup."""
        scheme = self.attributes
        check_put(scheme, cell, amount)
        self.states.append(tuple([
            (rollup, with_more(scheme, rollup, amounts, cell_above(scheme, finest(scheme), cell, rollup), amount))
            for rollup, amounts in self.states[-1]
        ]))

    def known_sums(self, rollup):
        """The sums at a rollup that a stored one is at least as fine as."""
        check_rollup(self.attributes, rollup)
        place = first_fine(self.stored, rollup)
        if place is None:
            one, other = tables_for_rollup(self.attributes, rollup)
            raise Unknown(one, other)
        fine, amounts = self.states[-1][place]
        return added_up(self.attributes, fine, amounts, rollup)

    def __call__(self, rollup):
        return self.known_sums(rollup)

    def __getitem__(self, at):
        if not isinstance(at, tuple) or len(at) != 2:
            raise RollupError("this is no rollup with a cell")
        rollup, cell = at
        check_rollup(self.attributes, rollup)
        check_cell(self.attributes, rollup, cell)
        levels, groups = kept_cell(self.attributes, rollup, cell)
        place = first_fine(self.stored, levels)
        if place is None:
            one, other = tables_for_cell(self.attributes, levels, groups)
            raise Unknown(one, other)
        fine, amounts = self.states[-1][place]
        return sum_in_cell(self.attributes, fine, amounts, levels, groups)

    def __iter__(self):
        # Otherwise Python would try the integers from 0 on as rollups with a cell.
        raise TypeError("a store is not iterated over")

    def pieces_with(self, rollup):
        """The report with one more rollup at the end."""
        amounts = self.known_sums(rollup)
        pieces = (*self.states[-1], (rollup, amounts))
        if len(pieces) > MOST_STORED:
            raise LimitError(len(pieces), MOST_STORED)
        return pieces

    def keep(self, rollup):
        """Store one more rollup, for which a stored one is fine enough."""
        self.states.append(self.pieces_with(rollup))

    def drop(self, place):
        """Remove a stored rollup, unless it is the only one."""
        pieces = self.states[-1]
        if not is_number_below(place, len(pieces)):
            raise PlaceError("there is no stored rollup at this place")
        if len(pieces) == 1:
            raise PlaceError("the last stored rollup is not removed")
        self.states.append((*pieces[:place], *pieces[place + 1:]))

    def undo(self):
        """Take back the last put, keep or drop that has not been taken back."""
        take_back(self.states)

    def trying(self):
        """A context manager: an exception that leaves its block takes back all that was done there."""
        return Trying(self)

    def __len__(self):
        return len(self.states[-1])

    def __contains__(self, x):
        return is_rollup(self.attributes, x) and first_fine(self.stored, x) is not None

    def __repr__(self):
        return f"{self.KIND}({len(self)} rollups, {count_of_sums(self.states[-1])} sums)"


class Lean(Store):
    """A store that keeps no rollup for which another one that it keeps is at least as fine."""

    KIND = "Lean"

    def chosen(self, stored):
        """Those of the rollups that are kept: of equal ones the first."""
        return tuple([rollup for place, rollup in enumerate(stored) if is_needed(stored, place)])

    def keep(self, rollup):
        """Count as a change: a rollup that could be stored is one that is not needed."""
        self.known_sums(rollup)
        self.states.append(self.states[-1])


class Frugal(Store):
    """A store that keeps at most so many sums."""

    KIND = "Frugal"

    def __init__(self, scheme, *stored, most=USUAL_MOST):
        super().__init__(scheme, *stored)
        if not is_number_from(most, 1, GREATEST_MOST):
            raise NumberError("a store keeps one sum at least, and 480 at most")
        check_room(self.states[-1], most)
        self.limit = most

    @property
    def most(self):
        """The number of sums that may be kept."""
        return self.limit

    def keep(self, rollup):
        """Store one more rollup, for which a stored one is fine enough, if there is room for its sums."""
        pieces = self.pieces_with(rollup)
        check_room(pieces, self.limit)
        self.states.append(pieces)


class LeanFrugal(Lean, Frugal):
    """A store that is both: what it leaves out does not count."""

    KIND = "LeanFrugal"
