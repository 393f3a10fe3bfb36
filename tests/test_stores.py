"""Stores [70], [71]."""

import copy
import itertools
import operator
import random
import unittest

from checking import Checking, parts_of, shown
from plain_answers import plain_answer, plain_answer_cell
from rolluplevels.cubes import Cube
from rolluplevels.errors import (
    AmountError, CellError, LimitError, NothingDone, NumberError, PlaceError, RollupError, SchemeError, StoredError,
    Unknown,
)
from rolluplevels.stores import Frugal, Lean, LeanFrugal, Store
from samples import (
    DEEP, DOC_SCHEME, DOC_TABLE, HUGE, KEPT, MANY_ROLLUPS, SCHEMES, SINGLE, SIXTY, TRIPLE, other_kinds, plain_cells,
    plain_fine, plain_rollups, plain_sums, several, table_length, wrong_stored,
)

MILLION = 1_000_000
CLASSES = (Store, Lean, Frugal, LeanFrugal)
LIMITED = (Frugal, LeanFrugal)
LEAN = (Lean, LeanFrugal)

NO_SCHEMES = [(), [(4, ())], ((7, ()),), ((4, ((False,) * 4,)),), ((4, ()),) * 3] + other_kinds()
NO_CELLS = [
    (), (0,), (0, 0, 0), (4, 0), (0, 3), (-1, 0), (0, -1), (True, 0), (0, False), [0, 0], (0, "0"), ((0, 0),), (HUGE, 0),
] + other_kinds()
NO_AMOUNTS = [
    MILLION + 1, -MILLION - 1, HUGE, -HUGE, True, False, None, "1", "", (1,), [1], {}, {1: 1}, Cube(SINGLE),
    Store(SINGLE, (0,)), CellError("1"),
]
NO_ROLLUPS = [
    (), (0,), (0, 0, 0), (3, 0), (0, 2), (-1, 0), (True, 0), (0, False), [0, 0], (0, "0"), ((0, 0), (0, 0)), (HUGE, 0),
] + other_kinds()


def finest_cells(scheme):
    return list(itertools.product(*[range(many) for many, steps in scheme]))


def size_of(scheme, rollup):
    return len(plain_cells(scheme, rollup))


def lean(stored):
    """The rollups without those for which another one is as fine, and without equal ones behind the first."""
    once = list(dict.fromkeys(stored))
    return tuple(rollup for rollup in once if [other for other in once if plain_fine(other, rollup)] == [rollup])


def kept_by(kind, stored):
    return lean(stored) if kind in LEAN else tuple(stored)


def made(kind, scheme, stored):
    """A store with room for all that eight rollups can have."""
    return kind(scheme, *stored, most=480) if kind in LIMITED else kind(scheme, *stored)


def put_in(scheme, table, cell, amount):
    amounts = dict(zip(finest_cells(scheme), table))
    amounts[cell] += amount
    return tuple(amounts.values())


def plain_report(scheme, table, stored):
    return tuple((rollup, plain_sums(scheme, table, rollup)) for rollup in stored)


def some_stored(scheme, seed):
    """One to eight stored rollups."""
    return [stored for stored in several(plain_rollups(scheme), 8, seed) if stored]


class StoreCase(Checking):

    def assert_store(self, store, kind, scheme, table, stored, changes=0):
        """All that the store tells is what the rollups and the amounts that were put in give."""
        report = plain_report(scheme, table, stored)
        many = sum(len(amounts) for rollup, amounts in report)
        self.assertIs(type(store), kind)
        self.assert_same(store.scheme, scheme)
        self.assert_same(store.stored, tuple(stored))
        self.assert_same(store.report, report)
        self.assert_same(store.changes, changes)
        self.assert_same(len(store), len(stored))
        self.assert_same(repr(store), f"{kind.__name__}({len(stored)} rollups, {many} sums)")

    def assert_refused(self, kind, store, function, *given):
        """The exception is raised, and neither the store nor the arguments are changed."""
        before = parts_of(store)
        self.assert_raises_exactly(kind, function, *given)
        self.assertEqual(parts_of(store), before)

    def assert_unknown(self, expected, store, function, *given):
        """Unknown is raised with the two tables, and the store is not changed."""
        before = parts_of(store)
        with self.assertRaises(Unknown) as caught:
            function(*given)
        self.assertIs(type(caught.exception), Unknown)
        self.assert_same(("tables", caught.exception.one, caught.exception.other), expected)
        self.assertEqual(parts_of(store), before)

    def assert_limit(self, amount, limit, function, *given, **named):
        with self.assertRaises(LimitError) as caught:
            function(*given, **named)
        self.assertIs(type(caught.exception), LimitError)
        self.assert_same((caught.exception.amount, caught.exception.limit), (amount, limit))

    def filled(self, kind, scheme, stored, seed):
        """A store with some puts, and the table of them."""
        chance = random.Random(seed)
        store, table = made(kind, scheme, stored), (0,) * table_length(scheme)
        for turn in range(5):
            cell, amount = chance.choice(finest_cells(scheme)), chance.choice((1, -1, 3, MILLION, -MILLION, 50))
            store.put(cell, amount)
            table = put_in(scheme, table, cell, amount)
        return store, table


class MakingTest(StoreCase):

    def test_all_classes(self):
        for kind, scheme in itertools.product(CLASSES, SCHEMES):
            for stored in some_stored(scheme, 21)[::3]:
                store = made(kind, scheme, stored)
                self.assert_store(store, kind, scheme, (0,) * table_length(scheme), kept_by(kind, stored))

    def test_written_out(self):
        self.assertEqual(repr(Store(DOC_SCHEME, (1, 1), (2, 0), (2, 0))), "Store(3 rollups, 10 sums)")
        self.assertEqual(repr(Store(DOC_SCHEME, (1, 1), (1, 0))), "Store(2 rollups, 10 sums)")
        self.assertEqual(repr(Store(SINGLE, (0,))), "Store(1 rollups, 1 sums)")
        self.assertEqual(repr(Lean(DOC_SCHEME, (1, 1), (1, 0))), "Lean(1 rollups, 6 sums)")
        self.assertEqual(repr(Frugal(DOC_SCHEME, (1, 1), (1, 0))), "Frugal(2 rollups, 10 sums)")
        self.assertEqual(str(LeanFrugal(DOC_SCHEME, (1, 1), (2, 0))), "LeanFrugal(2 rollups, 7 sums)")

    def test_derived(self):
        self.assertEqual(Lean.__bases__, (Store,))
        self.assertEqual(Frugal.__bases__, (Store,))
        self.assertEqual(LeanFrugal.__bases__, (Lean, Frugal))

    def test_eight_rollups(self):
        for kind in CLASSES:
            for many in range(1, 9):
                store = made(kind, DOC_SCHEME, ((1, 1),) * many)
                self.assert_store(store, kind, DOC_SCHEME, (0,) * 12, kept_by(kind, ((1, 1),) * many))
            for many in (9, 10, 100):
                self.assert_raises_exactly(StoredError, kind, DOC_SCHEME, *[(1, 1)] * many)

    def test_exceptions(self):
        for kind in CLASSES:
            for thing in NO_SCHEMES:
                self.assert_raises_exactly(SchemeError, kind, thing, (1, 1))
                self.assert_raises_exactly(SchemeError, kind, thing)
                self.assert_raises_exactly(SchemeError, kind, thing, *[None] * 9)
            self.assert_raises_exactly(StoredError, kind, DOC_SCHEME)
            for thing in NO_ROLLUPS:
                self.assert_raises_exactly(StoredError, kind, DOC_SCHEME, thing)
                self.assert_raises_exactly(StoredError, kind, DOC_SCHEME, (1, 1), thing)
                self.assert_raises_exactly(StoredError, kind, DOC_SCHEME, thing, (1, 1), (1, 1))
            for thing in wrong_stored():
                if isinstance(thing, tuple):
                    self.assert_raises_exactly(StoredError, kind, DOC_SCHEME, *thing)

    def test_properties_that_cannot_be_assigned(self):
        for kind in CLASSES:
            store = kind(DOC_SCHEME, (1, 1))
            for name in ("scheme", "stored", "report", "changes") + (("most",) if kind in LIMITED else ()):
                with self.assertRaises(AttributeError):
                    setattr(store, name, getattr(store, name))

    def test_it_keeps_no_table(self):
        # Amounts at other cells of the same groups leave a store that cannot be told apart.
        one, other = Store(DOC_SCHEME, (1, 1)), Store(DOC_SCHEME, (1, 1))
        one.put((0, 1), 3)
        other.put((1, 2), 3)
        self.assertEqual(parts_of(one), parts_of(other))
        self.assertFalse(hasattr(one, "table"))


class LeanTest(StoreCase):

    def test_written_out(self):
        for given, expected in (
            (((1, 1), (1, 1)), ((1, 1),)),
            (((2, 1), (1, 1), (2, 0), (2, 1)), ((1, 1), (2, 0))),
            (((2, 0), (1, 1), (2, 0), (1, 1)), ((2, 0), (1, 1))),
            (((2, 1), (2, 0), (0, 1), (0, 0)), ((0, 0),)),
            (((0, 0), (2, 1), (2, 0), (0, 1)), ((0, 0),)),
            (((2, 1), (2, 1), (2, 0)), ((2, 0),)),
            (((0, 1), (1, 0), (1, 1)), ((0, 1), (1, 0))),
        ):
            self.assert_same(lean(given), expected)
            for kind in LEAN:
                self.assert_store(kind(DOC_SCHEME, *given), kind, DOC_SCHEME, (0,) * 12, expected)

    def test_many(self):
        for kind, scheme in itertools.product(LEAN, (DOC_SCHEME, TRIPLE, MANY_ROLLUPS, DEEP)):
            for stored in some_stored(scheme, 22):
                self.assert_same(made(kind, scheme, stored).stored, lean(stored))

    def test_keep_changes_nothing_but_counts(self):
        for kind, scheme in itertools.product(LEAN, (DOC_SCHEME, TRIPLE, KEPT)):
            for stored in some_stored(scheme, 23)[::29]:
                store, table = self.filled(kind, scheme, stored, 24)
                changes = 5
                for rollup in plain_rollups(scheme):
                    if any(plain_fine(one, rollup) for one in stored):
                        self.assertIsNone(store.keep(rollup))
                        changes += 1
                    else:
                        self.assert_unknown(plain_answer(scheme, stored, rollup), store, store.keep, rollup)
                    self.assert_store(store, kind, scheme, table, lean(stored), changes)
                for turn in range(changes):
                    store.undo()
                self.assert_store(store, kind, scheme, (0,) * table_length(scheme), lean(stored))
                self.assert_refused(NothingDone, store, store.undo)

    def test_keep_has_no_limit(self):
        # Eight rollups of which none is as fine as another.
        stored = [rollup for rollup in plain_rollups(MANY_ROLLUPS) if sum(rollup) == 4][:8]
        self.assertEqual(len(stored), 8)
        for kind in LEAN:
            store = made(kind, MANY_ROLLUPS, stored)
            for turn in range(20):
                store.keep((3, 3, 2))
                store.keep(stored[0])
            self.assert_store(store, kind, MANY_ROLLUPS, (0,) * 48, stored, 40)
        store = LeanFrugal(DOC_SCHEME, (0, 0), most=12)
        for rollup in plain_rollups(DOC_SCHEME):
            store.keep(rollup)
        self.assert_store(store, LeanFrugal, DOC_SCHEME, (0,) * 12, ((0, 0),), 6)

    def test_more_than_eight_are_too_many_even_if_they_are_left_out(self):
        for kind in LEAN:
            self.assert_raises_exactly(StoredError, kind, DOC_SCHEME, *[(0, 0)] * 9)

    def test_after_a_drop(self):
        for kind in LEAN:
            store = kind(DOC_SCHEME, (2, 1), (1, 1), (2, 0))
            store.drop(0)
            self.assert_store(store, kind, DOC_SCHEME, (0,) * 12, ((2, 0),), 1)
            store.keep((2, 1))
            self.assert_store(store, kind, DOC_SCHEME, (0,) * 12, ((2, 0),), 2)
            self.assert_unknown(plain_answer(DOC_SCHEME, ((2, 0),), (1, 1)), store, store.keep, (1, 1))


class FrugalTest(StoreCase):

    def test_most(self):
        for kind in LIMITED:
            self.assert_same(kind(DOC_SCHEME, (1, 1)).most, 60)
            for most in (4, 5, 60, 61, 479, 480):
                self.assert_same(kind(DOC_SCHEME, (1, 1), most=most).most, most)
            self.assert_same(kind(SINGLE, (0,), most=1).most, 1)

    def test_no_number(self):
        for kind in LIMITED:
            for thing in [0, -1, 481, 482, HUGE, -HUGE, True, False, None, "60", (60,), [60], {}] + other_kinds():
                if type(thing) is not int or not 1 <= thing <= 480:
                    with self.assertRaises(NumberError) as caught:
                        kind(DOC_SCHEME, (1, 1), most=thing)
                    self.assertIs(type(caught.exception), NumberError)

    def test_the_first_of_several_exceptions(self):
        for kind in LIMITED:
            for most in (None, 481, 1):
                with self.assertRaises(SchemeError):
                    kind(None, None, most=most)
                with self.assertRaises(SchemeError):
                    kind(None, most=most)
                with self.assertRaises(StoredError):
                    kind(DOC_SCHEME, most=most)
                with self.assertRaises(StoredError):
                    kind(DOC_SCHEME, (0, 0), (3, 0), most=most)
                with self.assertRaises(StoredError):
                    kind(DOC_SCHEME, *[(0, 0)] * 9, most=most)
            for most in (None, 0, 481, True):
                with self.assertRaises(NumberError):
                    kind(SIXTY, *[(0, 0, 0)] * 8, most=most)

    def test_the_least_that_is_enough(self):
        for kind, scheme in itertools.product(LIMITED, SCHEMES):
            for stored in some_stored(scheme, 25)[::5]:
                kept = kept_by(kind, stored)
                enough = sum(size_of(scheme, rollup) for rollup in kept)
                store = kind(scheme, *stored, most=enough)
                self.assert_store(store, kind, scheme, (0,) * table_length(scheme), kept)
                if enough > 1:
                    self.assert_limit(enough, enough - 1, kind, scheme, *stored, most=enough - 1)
                    self.assert_limit(enough, 1, kind, scheme, *stored, most=1)

    def test_the_usual_limit(self):
        self.assert_store(Frugal(SIXTY, (0, 0, 0)), Frugal, SIXTY, (0,) * 60, ((0, 0, 0),))
        self.assert_limit(120, 60, Frugal, SIXTY, (0, 0, 0), (0, 0, 0))
        self.assert_limit(64, 60, Frugal, SIXTY, (0, 0, 0), (2, 2, 0))
        self.assert_store(LeanFrugal(SIXTY, (0, 0, 0), (0, 0, 0)), LeanFrugal, SIXTY, (0,) * 60, ((0, 0, 0),))
        self.assert_limit(480, 60, Frugal, SIXTY, *[(0, 0, 0)] * 8)

    def test_keep(self):
        for scheme in (DOC_SCHEME, TRIPLE, KEPT):
            for stored in some_stored(scheme, 26)[::31]:
                stored = stored[:7]
                have = sum(size_of(scheme, rollup) for rollup in stored)
                for rollup in plain_rollups(scheme):
                    self.keep_with(scheme, stored, rollup, have + size_of(scheme, rollup))

    def keep_with(self, scheme, stored, rollup, enough):
        known = any(plain_fine(one, rollup) for one in stored)
        table = (0,) * table_length(scheme)
        for most in (enough, enough - 1):
            store = Frugal(scheme, *stored, most=most)
            if not known:
                self.assert_unknown(plain_answer(scheme, stored, rollup), store, store.keep, rollup)
                self.assert_store(store, Frugal, scheme, table, stored)
            elif most == enough:
                self.assertIsNone(store.keep(rollup))
                self.assert_store(store, Frugal, scheme, table, stored + (rollup,), 1)
            else:
                before = parts_of(store)
                self.assert_limit(enough, most, store.keep, rollup)
                self.assertEqual(parts_of(store), before)

    def test_the_limit_of_eight_comes_first(self):
        store = Frugal(DOC_SCHEME, *[(1, 1)] * 8, most=32)
        self.assert_limit(9, 8, store.keep, (1, 1))
        store = Frugal(DOC_SCHEME, *[(1, 1)] * 8, most=480)
        self.assert_limit(9, 8, store.keep, (1, 1))
        store = Frugal(DOC_SCHEME, *[(1, 1)] * 7, most=31)
        self.assert_limit(32, 31, store.keep, (1, 1))
        self.assert_raises_exactly(RollupError, store.keep, (3, 3))
        self.assert_unknown(plain_answer(DOC_SCHEME, ((1, 1),), (0, 0)), store, store.keep, (0, 0))

    def test_room_after_a_drop_and_an_undo(self):
        store = Frugal(DOC_SCHEME, (1, 1), (2, 1), most=6)
        self.assert_limit(8, 6, store.keep, (2, 1))
        store.drop(1)
        store.keep((2, 1))
        self.assert_limit(8, 6, store.keep, (2, 1))
        store.undo()
        store.keep((2, 1))
        self.assert_store(store, Frugal, DOC_SCHEME, (0,) * 12, ((1, 1), (2, 1)), 2)

    def test_the_limit_is_for_sums_not_for_amounts(self):
        store = Frugal(SINGLE, (0,), most=1)
        for turn in range(10):
            store.put((0,), MILLION)
        self.assert_store(store, Frugal, SINGLE, (10 * MILLION,), ((0,),), 10)


class PutTest(StoreCase):

    def test_at_each_cell(self):
        for kind, scheme in itertools.product(CLASSES, SCHEMES):
            for stored in some_stored(scheme, 27)[::23]:
                store, table = made(kind, scheme, stored), (0,) * table_length(scheme)
                for turn, cell in enumerate(finest_cells(scheme)):
                    self.assertIsNone(store.put(cell, 3 ** turn % 1000 - 500))
                    table = put_in(scheme, table, cell, 3 ** turn % 1000 - 500)
                    self.assert_store(store, kind, scheme, table, kept_by(kind, stored), turn + 1)

    def test_one_sum_of_each(self):
        store = Store(DOC_SCHEME, (1, 1), (2, 0), (1, 1), (0, 0))
        store.put((2, 1), 7)
        self.assert_same(store.report, (
            ((1, 1), (0, 0, 0, 7)), ((2, 0), (0, 7, 0)), ((1, 1), (0, 0, 0, 7)), ((0, 0), (0,) * 7 + (7,) + (0,) * 4),
        ))

    def test_amounts(self):
        for kind in CLASSES:
            for amount in (0, 1, -1, MILLION, -MILLION):
                store = kind(DOC_SCHEME, (2, 1))
                for turn in range(1, 4):
                    self.assertIsNone(store.put(cell=(3, 0), amount=amount))
                    self.assert_same((store.report, store.changes), ((((2, 1), (turn * amount, 0)),), turn))

    def test_exceptions(self):
        for kind in CLASSES:
            store = kind(DOC_SCHEME, (1, 1))
            store.put((0, 0), 1)
            for thing in NO_CELLS:
                self.assert_refused(CellError, store, store.put, thing, 1)
                self.assert_refused(CellError, store, store.put, thing, None)
                self.assert_refused(CellError, store, store.put, thing, MILLION + 1)
            for thing in NO_AMOUNTS:
                self.assert_refused(AmountError, store, store.put, (0, 0), thing)
                self.assert_refused(CellError, store, store.put, (4, 0), thing)


class SumsTest(StoreCase):

    def test_at_all_rollups(self):
        for kind, scheme in itertools.product(CLASSES, SCHEMES):
            for seed, stored in enumerate(some_stored(scheme, 28)[::7]):
                store, table = self.filled(kind, scheme, stored, seed)
                for rollup in plain_rollups(scheme):
                    expected = plain_answer(scheme, stored, rollup)
                    if expected[0] == "from":
                        self.assert_same(store(rollup), plain_sums(scheme, table, rollup))
                        self.assertIs(rollup in store, True)
                    else:
                        self.assert_unknown(expected, store, store, rollup)
                        self.assertIs(rollup in store, False)
                self.assert_store(store, kind, scheme, table, kept_by(kind, stored), 5)

    def test_at_all_cells(self):
        for kind, scheme in itertools.product(CLASSES, SCHEMES):
            for seed, stored in enumerate(some_stored(scheme, 29)[::41]):
                store, table = self.filled(kind, scheme, stored, seed)
                for rollup in plain_rollups(scheme):
                    sums = plain_sums(scheme, table, rollup)
                    for cell, amount in zip(plain_cells(scheme, rollup), sums):
                        expected = plain_answer_cell(scheme, stored, rollup, cell)
                        if expected[0] == "from":
                            self.assert_same(store[rollup, cell], amount)
                        else:
                            self.assert_unknown(expected, store, operator.getitem, store, (rollup, cell))
                self.assert_store(store, kind, scheme, table, kept_by(kind, stored), 5)

    def test_a_cell_that_is_known_though_its_rollup_is_not(self):
        # The value 0 of the second attribute is alone in its group of the next level.
        for kind in CLASSES:
            store = kind(DOC_SCHEME, (1, 1), (2, 0))
            store.put((2, 0), 9)
            self.assert_same(store[(1, 0), (1, 0)], 9)
            self.assert_unknown(plain_answer(DOC_SCHEME, store.stored, (1, 0)), store, store, (1, 0))
            self.assert_unknown(
                plain_answer_cell(DOC_SCHEME, store.stored, (1, 0), (1, 1)), store, operator.getitem, store,
                ((1, 0), (1, 1)),
            )

    def test_exceptions_of_the_call(self):
        for kind in CLASSES:
            store = kind(DOC_SCHEME, (1, 1))
            for thing in NO_ROLLUPS:
                self.assert_refused(RollupError, store, store, thing)
                self.assert_refused(RollupError, store, store.keep, thing)

    def test_exceptions_of_the_index(self):
        for kind in CLASSES:
            store = kind(DOC_SCHEME, (1, 1))
            for thing in NO_ROLLUPS:
                if thing != ((0, 0), (0, 0)):
                    self.assert_refused(RollupError, store, operator.getitem, store, thing)
                self.assert_refused(RollupError, store, operator.getitem, store, (thing, (0, 0)))
                self.assert_refused(RollupError, store, operator.getitem, store, (thing, None))
            for thing in ((1, 1), ((1, 1),), ((1, 1), (0, 0), 0), [(1, 1), (0, 0)], (), {0: (1, 1), 1: (0, 0)}, "ab",
                          ((1, 1), (0, 0)) * 2, slice((1, 1), (0, 0))):
                self.assert_refused(RollupError, store, operator.getitem, store, thing)
            for thing in [(2, 0), (0, 2), (-1, 0), (0, False), (0,), (0, 0, 0), [0, 0]] + other_kinds():
                self.assert_refused(CellError, store, operator.getitem, store, ((1, 1), thing))
            # The cell is wrong, and nothing is known of the rollup.
            for thing in [(4, 0), (0, 3), (True, 0), None]:
                self.assert_refused(CellError, store, operator.getitem, store, ((0, 0), thing))

    def test_any_value_in(self):
        for kind in CLASSES:
            store = kind(DOC_SCHEME, (0, 0))
            for rollup in plain_rollups(DOC_SCHEME):
                self.assertIs(rollup in store, True)
            for thing in NO_ROLLUPS:
                with self.subTest(shown(thing)):
                    before = parts_of(thing)
                    self.assertIs(thing in store, False)
                    self.assertEqual(parts_of(thing), before)

    def test_a_cube_with_the_same_puts(self):
        for seed, (kind, scheme) in enumerate(itertools.product(CLASSES, SCHEMES)):
            chance = random.Random(seed)
            cube, store = Cube(scheme), made(kind, scheme, chance.choice(some_stored(scheme, seed)))
            for turn in range(8):
                cell, amount = chance.choice(finest_cells(scheme)), chance.randrange(-MILLION, MILLION + 1)
                cube.put(cell, amount)
                store.put(cell, amount)
            self.assert_tells_what_the_cube_tells(scheme, cube, store)
            store.undo()
            cube.undo()
            self.assert_tells_what_the_cube_tells(scheme, cube, store)

    def assert_tells_what_the_cube_tells(self, scheme, cube, store):
        told = 0
        for rollup in plain_rollups(scheme):
            if rollup in store:
                self.assert_same(store(rollup), cube[rollup])
                told += 1
            for cell, amount in zip(plain_cells(scheme, rollup), cube[rollup]):
                try:
                    self.assert_same(store[rollup, cell], amount)
                except Unknown:
                    self.assertNotIn(rollup, store)
        self.assertGreaterEqual(told, len(set(store.stored)))
        for rollup, amounts in store.report:
            self.assert_same(cube[rollup], amounts)


class KeepTest(StoreCase):

    def test_all_rollups(self):
        for kind, scheme in itertools.product((Store, Frugal), SCHEMES):
            for seed, stored in enumerate(some_stored(scheme, 30)[::17]):
                stored = stored[:7]
                for rollup in plain_rollups(scheme):
                    store, table = self.filled(kind, scheme, stored, seed)
                    expected = plain_answer(scheme, stored, rollup)
                    if expected[0] == "from":
                        self.assertIsNone(store.keep(rollup))
                        self.assert_store(store, kind, scheme, table, stored + (rollup,), 6)
                    else:
                        self.assert_unknown(expected, store, store.keep, rollup)

    def test_one_that_is_stored_already(self):
        store = Store(DOC_SCHEME, (1, 1))
        for many in range(2, 9):
            store.put((0, 0), 1)
            self.assertIsNone(store.keep(rollup=(1, 1)))
            self.assert_same(store.report, (((1, 1), (many - 1, 0, 0, 0)),) * many)

    def test_the_limit_of_eight(self):
        for kind in (Store, Frugal):
            store, table = self.filled(kind, DOC_SCHEME, ((1, 1),) * 8, 3)
            for rollup in ((1, 1), (2, 1)):
                before = parts_of(store)
                self.assert_limit(9, 8, store.keep, rollup)
                self.assertEqual(parts_of(store), before)
            for rollup in ((0, 0), (2, 0)):
                self.assert_unknown(plain_answer(DOC_SCHEME, store.stored, rollup), store, store.keep, rollup)
            self.assert_refused(RollupError, store, store.keep, (3, 0))
            store.drop(3)
            store.keep((2, 1))
            self.assert_store(store, kind, DOC_SCHEME, table, ((1, 1),) * 7 + ((2, 1),), 7)

    def test_puts_reach_what_was_kept(self):
        store = Store(DOC_SCHEME, (0, 0))
        store.put((3, 2), 5)
        store.keep((2, 1))
        store.put((0, 0), 1)
        self.assert_same(store.report, (((0, 0), (1,) + (0,) * 10 + (5,)), ((2, 1), (1, 5))))


class DropTest(StoreCase):

    def test_each_place(self):
        for kind, scheme in itertools.product(CLASSES, SCHEMES):
            for seed, stored in enumerate(some_stored(scheme, 31)[::11]):
                kept = kept_by(kind, stored)
                for place in range(len(kept)):
                    store, table = self.filled(kind, scheme, stored, seed)
                    if len(kept) == 1:
                        self.assert_refused(PlaceError, store, store.drop, place)
                    else:
                        self.assertIsNone(store.drop(place))
                        self.assert_store(store, kind, scheme, table, kept[:place] + kept[place + 1:], 6)

    def test_down_to_the_last(self):
        store = Store(DOC_SCHEME, *[(1, 1)] * 8)
        for many in range(7, 0, -1):
            self.assertIsNone(store.drop(place=0))
            self.assertEqual(len(store), many)
        for place in (0, 1, -1):
            self.assert_refused(PlaceError, store, store.drop, place)

    def test_what_was_dropped_is_unknown(self):
        store, table = self.filled(Store, DOC_SCHEME, ((2, 1), (0, 0)), 5)
        store.drop(1)
        self.assert_unknown(plain_answer(DOC_SCHEME, ((2, 1),), (1, 1)), store, store, (1, 1))
        store.undo()
        self.assert_same(store((1, 1)), plain_sums(DOC_SCHEME, table, (1, 1)))

    def test_exceptions(self):
        for kind in CLASSES:
            store = kind(DOC_SCHEME, (1, 1), (2, 0))
            things = [thing for thing in other_kinds() if type(thing) is not int]
            for thing in things + [2, 3, -1, -2, HUGE, -HUGE, True, False, (1, 1), "0"]:
                self.assert_refused(PlaceError, store, store.drop, thing)


class UndoTest(StoreCase):

    def test_nothing_done(self):
        for kind in CLASSES:
            store = kind(DOC_SCHEME, (1, 1), (2, 0))
            for change in (lambda: store.put((0, 0), 0), lambda: store.keep((2, 1)), lambda: store.drop(0)):
                self.assert_refused(NothingDone, store, store.undo)
                self.assertIsNone(change())
                self.assertEqual(store.changes, 1)
                self.assertIsNone(store.undo())
                self.assert_store(store, kind, DOC_SCHEME, (0,) * 12, ((1, 1), (2, 0)))
            self.assert_refused(NothingDone, store, store.undo)

    def test_long_rows_and_the_way_back(self):
        for seed, (kind, scheme) in enumerate(itertools.product(CLASSES, SCHEMES)):
            chance = random.Random(seed)
            stored = chance.choice(some_stored(scheme, seed))
            store = made(kind, scheme, stored)
            states = [((0,) * table_length(scheme), kept_by(kind, stored))]
            for turn in range(120):
                self.one_turn(chance, store, kind, scheme, states)
                self.assert_store(store, kind, scheme, *states[-1], len(states) - 1)
            while len(states) > 1:
                store.undo()
                states.pop()
                self.assert_store(store, kind, scheme, *states[-1], len(states) - 1)
            self.assert_refused(NothingDone, store, store.undo)

    def one_turn(self, chance, store, kind, scheme, states):
        """Change the store and the list of its tables and rollups, or have it refuse something."""
        turn = chance.randrange(8)
        table, stored = states[-1]
        cell, rollup = chance.choice(finest_cells(scheme)), chance.choice(plain_rollups(scheme))
        if turn < 3:
            amount = chance.choice((0, 1, -1, 5, MILLION, -MILLION))
            store.put(cell, amount)
            states.append((put_in(scheme, table, cell, amount), stored))
        elif turn == 3:
            self.keep_turn(store, kind, scheme, states, rollup)
        elif turn == 4:
            place = chance.randrange(-1, len(stored) + 1)
            if place not in range(len(stored)) or len(stored) == 1:
                self.assert_refused(PlaceError, store, store.drop, place)
            else:
                store.drop(place)
                states.append((table, stored[:place] + stored[place + 1:]))
        elif turn == 5 and len(states) > 1:
            store.undo()
            states.pop()
        elif turn == 6:
            self.assert_refused(CellError, store, store.put, cell + (0,), 1)
            self.assert_refused(AmountError, store, store.put, cell, MILLION + 1)
        elif turn == 7:
            self.assert_refused(RollupError, store, store.keep, rollup + (0,))
            self.assert_refused(RollupError, store, store, rollup + (0,))

    def keep_turn(self, store, kind, scheme, states, rollup):
        table, stored = states[-1]
        expected = plain_answer(scheme, stored, rollup)
        if expected[0] == "tables":
            self.assert_unknown(expected, store, store.keep, rollup)
        elif kind in LEAN:
            store.keep(rollup)
            states.append((table, stored))
        elif len(stored) == 8:
            self.assert_limit(9, 8, store.keep, rollup)
        else:
            store.keep(rollup)
            states.append((table, stored + (rollup,)))

    def test_stores_do_not_share_their_changes(self):
        for kind in CLASSES:
            one, other = kind(DOC_SCHEME, (1, 1), (2, 0)), kind(DOC_SCHEME, (1, 1), (2, 0))
            one.put((0, 0), 1)
            one.drop(1)
            self.assert_store(other, kind, DOC_SCHEME, (0,) * 12, ((1, 1), (2, 0)))
            copied = copy.deepcopy(one)
            copied.undo()
            self.assert_store(one, kind, DOC_SCHEME, (1,) + (0,) * 11, ((1, 1),), 2)


class TryingTest(StoreCase):

    def changed(self, kind):
        store = kind(DOC_SCHEME, (2, 1), (2, 0), (0, 1))
        store.put((0, 0), 1)
        store.keep((2, 1))
        return store

    def assert_way_back(self, kind, store):
        """The store is as changed makes it, with its way back."""
        stored = kept_by(kind, ((2, 1), (2, 0), (0, 1)))
        one = (1,) + (0,) * 11
        self.assert_store(store, kind, DOC_SCHEME, one, stored if kind in LEAN else stored + ((2, 1),), 2)
        store.undo()
        self.assert_store(store, kind, DOC_SCHEME, one, stored, 1)
        store.undo()
        self.assert_store(store, kind, DOC_SCHEME, (0,) * 12, stored)
        self.assert_refused(NothingDone, store, store.undo)

    def test_without_an_exception(self):
        for kind in CLASSES:
            store = self.changed(kind)
            with store.trying():
                store.put((0, 1), 4)
                store.drop(0)
                store.undo()
            self.assertEqual(store.changes, 3)
            store.undo()
            self.assert_way_back(kind, store)

    def test_with_an_exception(self):
        for kind, error in itertools.product(CLASSES, (KeyError("why"), CellError("why"), KeyboardInterrupt())):
            store = self.changed(kind)
            with self.assertRaises(type(error)) as caught:
                with store.trying():
                    store.put((0, 1), 4)
                    store.drop(0)
                    store.undo()
                    store.undo()
                    store.undo()
                    store.undo()
                    store.put((0, 2), 4)
                    raise error
            self.assertIs(caught.exception, error)
            self.assert_way_back(kind, store)

    def test_with_an_exception_of_the_store(self):
        for kind in CLASSES:
            store = self.changed(kind)
            with self.assertRaises(Unknown):
                with store.trying():
                    store.put((0, 1), 4)
                    store((0, 0))
            self.assert_way_back(kind, store)

    def test_one_within_another(self):
        for kind, inner, outer in itertools.product(CLASSES, (False, True), (False, True)):
            store = self.changed(kind)
            try:
                with store.trying():
                    store.put((0, 1), 10)
                    try:
                        with store.trying():
                            store.drop(0)
                            if inner:
                                raise KeyError("inner")
                    except KeyError:
                        self.assertEqual(store.changes, 3)
                    store.put((0, 2), 1000)
                    if outer:
                        raise IndexError("outer")
            except IndexError:
                self.assertTrue(outer)
            else:
                self.assertFalse(outer)
                self.assertEqual(store.changes, 4 if inner else 5)
                for turn in range(store.changes - 2):
                    store.undo()
            self.assert_way_back(kind, store)

    def test_a_manager_used_again(self):
        for kind in CLASSES:
            store = self.changed(kind)
            manager = store.trying()
            for turn in range(3):
                with self.assertRaises(KeyError):
                    with manager:
                        store.drop(0)
                        with manager:
                            store.put((0, 0), 1)
                        raise KeyError("why")
                with manager:
                    store.put((0, 0), 1)
                store.undo()
            self.assert_way_back(kind, store)


if __name__ == "__main__":
    unittest.main()
