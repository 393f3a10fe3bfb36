"""What to store [40], [41]."""

import itertools
import unittest

from checking import Checking, shown
from rolluplevels.errors import NumberError, SchemeError, StoredError
from rolluplevels.plans import best, cost, needed
from samples import (
    CROSSED, DEEP, DOC_SCHEME, FLAT, HUGE, MANY_ROLLUPS, MIXED, SCHEMES, SINGLE, SIXTY, TRIPLE, other_kinds,
    plain_cells, plain_fine, plain_rollups, several, wrong_stored,
)

NO_SCHEMES = ((), [(4, ())], ((7, ()),), ((4, ((False,) * 4,)),), ((4, ()),) * 3)


def plain_cost(scheme, stored, wanted):
    total = 0
    for rollup in wanted:
        sizes = [len(plain_cells(scheme, other)) for other in stored if plain_fine(other, rollup)]
        if not sizes:
            return None
        total += min(sizes)
    return total


def plain_best(scheme, stored, wanted, many):
    """The first choice with the least cost: a later one replaces it only if it costs less."""
    found = None
    for more in itertools.combinations(plain_rollups(scheme), many):
        total = plain_cost(scheme, stored + more, wanted)
        if total is not None and (found is None or total < found[0]):
            found = (total, more)
    return found


class NeededTest(Checking):

    def assert_needed(self, scheme, wanted, expected):
        with self.subTest(shown((scheme, wanted))):
            self.assert_same(needed(scheme, wanted), expected)

    def test_written_out(self):
        self.assert_needed(DOC_SCHEME, (), ())
        self.assert_needed(DOC_SCHEME, ((2, 1),), ((2, 1),))
        self.assert_needed(DOC_SCHEME, ((2, 0), (1, 1), (2, 1)), ((1, 1), (2, 0)))
        self.assert_needed(DOC_SCHEME, ((2, 0), (1, 1), (2, 1), (0, 0)), ((0, 0),))
        self.assert_needed(SINGLE, ((0,),) * 8, ((0,),))
        self.assert_needed(DEEP, ((3,), (1,), (2,), (1,)), ((1,),))
        self.assert_needed(TRIPLE, ((1, 0, 0), (0, 0, 2), (1, 0, 1)), ((0, 0, 2), (1, 0, 0)))

    def test_equal_ones_are_one(self):
        self.assert_needed(DOC_SCHEME, ((1, 1), (1, 1)), ((1, 1),))
        self.assert_needed(DOC_SCHEME, ((2, 0), (1, 1), (2, 0), (1, 1), (2, 1), (2, 1)), ((1, 1), (2, 0)))

    def test_many_wanted(self):
        for scheme in SCHEMES + (MANY_ROLLUPS,):
            for wanted in several(plain_rollups(scheme), 8, 6):
                expected = sorted(
                    rollup for rollup in set(wanted)
                    if [other for other in set(wanted) if plain_fine(other, rollup)] == [rollup]
                )
                self.assert_same(needed(scheme, wanted), tuple(expected))

    def test_they_determine_all_and_no_fewer_do(self):
        for wanted in several(plain_rollups(SIXTY), 8, 7):
            found = needed(SIXTY, wanted)
            for many in range(len(found) + 1):
                enough = [
                    some for some in itertools.combinations(sorted(set(wanted)), many)
                    if all(any(plain_fine(one, rollup) for one in some) for rollup in wanted)
                ]
                self.assertEqual(enough, [found] if many == len(found) else [])

    def test_arguments_are_not_modified(self):
        self.assert_unchanged(needed, DOC_SCHEME, ((2, 0), (1, 1), (2, 1)))

    def test_exceptions(self):
        for thing in list(NO_SCHEMES) + other_kinds():
            self.assert_raises_exactly(SchemeError, needed, thing, ((0, 0),))
            self.assert_raises_exactly(SchemeError, needed, thing, None)
        for thing in wrong_stored():
            self.assert_raises_exactly(StoredError, needed, DOC_SCHEME, thing)

    def test_up_to_eight(self):
        for many in range(1, 9):
            self.assert_needed(DOC_SCHEME, ((2, 0),) * many, ((2, 0),))
        self.assert_raises_exactly(StoredError, needed, DOC_SCHEME, ((2, 0),) * 9)


class CostTest(Checking):

    def assert_cost(self, scheme, stored, wanted, expected):
        with self.subTest(shown((scheme, stored, wanted))):
            self.assert_same(cost(scheme, stored, wanted), expected)

    def test_written_out(self):
        # The sizes at (0, 0), (0, 1), (1, 0), (1, 1), (2, 0), (2, 1) are 12, 8, 6, 4, 3, 2.
        self.assert_cost(DOC_SCHEME, ((0, 0),), ((2, 1),), 12)
        self.assert_cost(DOC_SCHEME, ((0, 0), (1, 1)), ((2, 1),), 4)
        self.assert_cost(DOC_SCHEME, ((0, 0), (1, 1), (2, 0)), ((2, 1), (1, 1), (1, 0)), 3 + 4 + 12)
        self.assert_cost(DOC_SCHEME, ((0, 1), (1, 0)), ((1, 1), (0, 1)), 6 + 8)

    def test_equal_ones_count_each_time(self):
        self.assert_cost(DOC_SCHEME, ((1, 1), (1, 1)), ((2, 1),) * 8, 32)
        self.assert_cost(SINGLE, ((0,),), ((0,),) * 3, 3)
        self.assert_cost(FLAT, ((0,),) * 8, ((0,),) * 8, 48)

    def test_none_wanted(self):
        self.assert_cost(DOC_SCHEME, (), (), 0)
        self.assert_cost(DOC_SCHEME, ((2, 1),), (), 0)

    def test_none_fine_enough(self):
        self.assert_cost(DOC_SCHEME, (), ((2, 1),), None)
        self.assert_cost(DOC_SCHEME, ((1, 1), (2, 0)), ((2, 1), (1, 0)), None)
        self.assert_cost(DOC_SCHEME, ((1, 1), (2, 0)), ((1, 0), (2, 1)), None)

    def test_many_stored_and_wanted(self):
        for scheme in SCHEMES + (MANY_ROLLUPS,):
            every = several(plain_rollups(scheme), 8, 8)
            chosen = every[:5] + every[5:-24:len(every) // 12 + 1] + every[-24:]
            for stored, wanted in itertools.product(chosen, repeat=2):
                self.assert_same(cost(scheme, stored, wanted), plain_cost(scheme, stored, wanted))

    def test_arguments_are_not_modified(self):
        self.assert_unchanged(cost, DOC_SCHEME, ((1, 1), (0, 0)), ((2, 1), (0, 1)))

    def test_exceptions(self):
        for thing in list(NO_SCHEMES) + other_kinds():
            self.assert_raises_exactly(SchemeError, cost, thing, ((0, 0),), ((0, 0),))
            self.assert_raises_exactly(SchemeError, cost, thing, None, None)
        for thing in wrong_stored():
            self.assert_raises_exactly(StoredError, cost, DOC_SCHEME, thing, ((0, 0),))
            self.assert_raises_exactly(StoredError, cost, DOC_SCHEME, ((0, 0),), thing)
            self.assert_raises_exactly(StoredError, cost, DOC_SCHEME, (), thing)
            self.assert_raises_exactly(StoredError, cost, DOC_SCHEME, thing, ())


class BestTest(Checking):

    def assert_best(self, scheme, stored, wanted, many, expected):
        with self.subTest(shown((scheme, stored, wanted, many))):
            self.assert_same(best(scheme, stored, wanted, many), expected)

    def test_written_out(self):
        # The sizes at (0, 0), (0, 1), (1, 0), (1, 1), (2, 0), (2, 1) are 12, 8, 6, 4, 3, 2.
        self.assert_best(DOC_SCHEME, (), ((2, 1),), 1, (2, ((2, 1),)))
        self.assert_best(DOC_SCHEME, (), ((1, 1), (2, 0)), 1, (12, ((1, 0),)))
        self.assert_best(DOC_SCHEME, (), ((1, 1), (2, 0)), 2, (7, ((1, 1), (2, 0))))
        self.assert_best(DOC_SCHEME, ((0, 0),), ((1, 1), (2, 0)), 1, (12, ((1, 0),)))
        self.assert_best(DOC_SCHEME, ((0, 0),), ((0, 1), (2, 0), (2, 1)), 1, (18, ((2, 0),)))

    def test_the_first_of_several_choices(self):
        self.assert_best(DOC_SCHEME, (), ((2, 1),), 2, (2, ((0, 0), (2, 1))))
        self.assert_best(DOC_SCHEME, (), ((0, 0),), 2, (12, ((0, 0), (0, 1))))
        self.assert_best(DOC_SCHEME, ((0, 0),), ((0, 0),), 2, (12, ((0, 0), (0, 1))))

    def test_none_wanted(self):
        self.assert_best(DOC_SCHEME, (), (), 1, (0, ((0, 0),)))
        self.assert_best(DOC_SCHEME, (), (), 2, (0, ((0, 0), (0, 1))))
        self.assert_best(TRIPLE, ((0, 0, 0),), (), 2, (0, ((0, 0, 0), (0, 0, 1))))

    def test_stored_already(self):
        self.assert_best(SINGLE, ((0,),), ((0,),), 1, (1, ((0,),)))
        self.assert_best(DOC_SCHEME, ((2, 1),), ((2, 1),), 1, (2, ((0, 0),)))
        self.assert_best(DEEP, ((0,), (1,), (2,), (3,)), ((3,),), 2, (2, ((0,), (1,))))

    def test_more_than_eight_together(self):
        self.assert_best(DOC_SCHEME, ((0, 0),) * 8, ((2, 1), (1, 1)), 1, (8, ((1, 1),)))
        self.assert_best(DOC_SCHEME, ((0, 0),) * 8, ((2, 1), (1, 1)) * 4, 2, (24, ((1, 1), (2, 1))))

    def test_fewer_rollups_than_many(self):
        for scheme in (SINGLE, FLAT, ((2, ()), (3, ()), (4, ()))):
            none = (0,) * len(scheme)
            self.assert_best(scheme, (), (), 2, None)
            self.assert_best(scheme, (none,), (none,), 2, None)
            self.assertIsNotNone(best(scheme, (none,), (none,), 1))
        self.assert_best(((2, ((0, 0),)),), (), ((1,),), 2, (1, ((0,), (1,))))

    def test_many_stored_and_wanted(self):
        for scheme in (DOC_SCHEME, SINGLE, FLAT, DEEP, CROSSED, MIXED, TRIPLE):
            every = several(plain_rollups(scheme), 8, 9)
            chosen = every[:3] + every[-24::3]
            for stored, wanted, many in itertools.product(chosen, chosen, (1, 2)):
                self.assert_best(scheme, stored, wanted, many, plain_best(scheme, stored, wanted, many))

    def test_many_rollups(self):
        every = several(plain_rollups(MANY_ROLLUPS), 8, 10)
        for stored, wanted in ((every[-1], every[-2]), ((), every[-3]), (every[7], every[-9])):
            for many in (1, 2):
                expected = plain_best(MANY_ROLLUPS, stored, wanted, many)
                self.assert_best(MANY_ROLLUPS, stored, wanted, many, expected)

    def test_arguments_are_not_modified(self):
        self.assert_unchanged(best, DOC_SCHEME, ((1, 1), (0, 0)), ((2, 1), (0, 1)), 2)

    def test_exceptions(self):
        for thing in list(NO_SCHEMES) + other_kinds():
            self.assert_raises_exactly(SchemeError, best, thing, ((0, 0),), ((0, 0),), 1)
        for thing in wrong_stored():
            self.assert_raises_exactly(StoredError, best, DOC_SCHEME, thing, ((0, 0),), 1)
            self.assert_raises_exactly(StoredError, best, DOC_SCHEME, ((0, 0),), thing, 2)
        for thing in other_kinds() + [0, 3, -1, -2, HUGE, True, (1,), [1], "1", "2", None]:
            if type(thing) is int and thing == 1:
                continue
            self.assert_raises_exactly(NumberError, best, DOC_SCHEME, ((0, 0),), ((0, 0),), thing)
            self.assert_raises_exactly(NumberError, best, SINGLE, (), (), thing)

    def test_the_first_of_several_exceptions(self):
        self.assert_raises_exactly(SchemeError, best, None, None, None, None)
        self.assert_raises_exactly(SchemeError, best, None, ((0, 0),), ((0, 0),), 0)
        self.assert_raises_exactly(StoredError, best, DOC_SCHEME, None, None, None)
        self.assert_raises_exactly(StoredError, best, DOC_SCHEME, None, ((0, 0),), 3)
        self.assert_raises_exactly(StoredError, best, DOC_SCHEME, ((0, 0),), None, 3)
        self.assert_raises_exactly(StoredError, best, SINGLE, ((0,),) * 9, ((0,),), 2)


if __name__ == "__main__":
    unittest.main()
