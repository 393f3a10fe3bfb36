"""What is determined [30] to [32], and the session of [1] as far as it shows answers."""

import itertools
import unittest

from checking import Checking, shown
from rolluplevels.answers import answer, answer_cell, own_cell, shows_answer, shows_answer_cell
from rolluplevels.errors import CellError, RollupError, SchemeError, StoredError
from plain_answers import plain_answer, plain_answer_cell, plain_own, plain_places
from samples import (
    CROSSED, DEEP, DOC_SCHEME, DOC_TABLE, FLAT, HUGE, KEPT, MANY_ROLLUPS, MIXED, SCHEMES, SINGLE, SIXTY, TRIPLE,
    broken, nested, other_kinds, plain_cells, plain_fine, plain_groups, plain_is_integer, plain_is_table,
    plain_rollups, plain_sums, several, table_length, tables, wrong_stored,
)

NO_SCHEMES = ((), [(4, ())], ((7, ()),), ((4, ((False,) * 4,)),), ((4, ()),) * 3)

# None of these is a rollup of the document's scheme.
WRONG_ROLLUPS = (
    (), (0,), (0, 0, 0), (3, 0), (0, 2), (-1, 0), (0, -1), (HUGE, 0), (True, 0), (0, False), [0, 0], (0, "0"),
    (0, None), ((0, 0),), ((0,), (0,)),
)

SOME_STORED = ((1, 1), (2, 0))
TABLES_OF_DOC = (
    "tables", (0, 1, 0, 0, 0, 0, 0, 0, 1, 0, 0, 0), (0, 0, 1, 0, 0, 0, 0, 1, 0, 0, 0, 0),
)


def plain_are_alike(scheme, stored, thing):
    """Whether it is ("tables", one, other) with tables that have the same stored sums."""
    if type(thing) is not tuple or len(thing) != 3 or type(thing[0]) is not str or thing[0] != "tables":
        return False
    if not plain_is_table(scheme, thing[1]) or not plain_is_table(scheme, thing[2]):
        return False
    return all(plain_sums(scheme, thing[1], rollup) == plain_sums(scheme, thing[2], rollup) for rollup in stored)


def plain_shows_answer(scheme, stored, wanted, thing):
    if plain_are_alike(scheme, stored, thing):
        return plain_sums(scheme, thing[1], wanted) != plain_sums(scheme, thing[2], wanted)
    if type(thing) is not tuple or len(thing) != 2 or type(thing[0]) is not str or thing[0] != "from":
        return False
    return plain_is_integer(thing[1]) and thing[1] in plain_places(stored, wanted)


def sum_in(scheme, table, rollup, cell):
    return dict(zip(plain_cells(scheme, rollup), plain_sums(scheme, table, rollup)))[cell]


def plus(table, further):
    return tuple(amount + more for amount, more in zip(table, further))


def times(table, number):
    return tuple(number * amount for amount in table)


class AnswerTest(Checking):

    def assert_answer(self, scheme, stored, wanted, expected):
        with self.subTest(shown((scheme, stored, wanted))):
            self.assert_same(answer(scheme, stored, wanted), expected)

    def test_of_the_document(self):
        self.assert_answer(DOC_SCHEME, ((1, 1), (0, 1)), (2, 1), ("from", 0))
        self.assert_answer(DOC_SCHEME, SOME_STORED, (1, 0), TABLES_OF_DOC)

    def test_the_first_position(self):
        self.assert_answer(DOC_SCHEME, ((2, 0), (2, 1), (1, 1), (0, 0), (1, 1)), (1, 1), ("from", 2))
        self.assert_answer(DOC_SCHEME, ((2, 0), (0, 0), (1, 1), (1, 1)), (1, 1), ("from", 1))
        self.assert_answer(DOC_SCHEME, ((1, 1),) * 8, (1, 1), ("from", 0))
        self.assert_answer(DOC_SCHEME, ((2, 0),) * 7 + ((1, 0),), (1, 1), ("from", 7))

    def test_nothing_stored(self):
        self.assert_answer(SINGLE, (), (0,), ("tables", (1,), (0,)))
        self.assert_answer(FLAT, (), (0,), ("tables", (1, 0, 0, 0, 0, 0), (0,) * 6))
        self.assert_answer(DOC_SCHEME, (), (2, 1), ("tables", (1,) + (0,) * 11, (0,) * 12))
        self.assert_answer(CROSSED, (), (0, 0), ("tables", (1, 0, 0, 0, 0, 0), (0, 0, 0, 0, 1, 0)))

    def test_pairs_that_are_not_the_first_values(self):
        # Of DEEP's level 1, the groups are {0, 5}, {1, 4}, {2}, {3}; 1 and 3 are together in the next one.
        self.assert_answer(DEEP, (), (1,), ("tables", (0, 1, 0, 0, 0, 0), (0, 0, 0, 1, 0, 0)))
        self.assert_answer(DEEP, ((2,), (3,)), (1,), ("tables", (0, 1, 0, 0, 0, 0), (0, 0, 0, 1, 0, 0)))
        self.assert_answer(DEEP, ((1,),), (0,), ("tables", (1, 0, 0, 0, 0, 0), (0, 0, 0, 0, 0, 1)))
        self.assert_answer(DEEP, ((3,),), (2,), ("tables", (1, 0, 0, 0, 0, 0), (0, 1, 0, 0, 0, 0)))

    def test_three_attributes(self):
        found = answer(SIXTY, ((0, 1, 0), (1, 0, 0)), (0, 0, 0))
        self.assert_same(found, plain_answer(SIXTY, ((0, 1, 0), (1, 0, 0)), (0, 0, 0)))
        self.assertEqual([at for at, amount in enumerate(found[1]) if amount], [0, 18])
        self.assertEqual([at for at, amount in enumerate(found[2]) if amount], [6, 12])

    def test_all_wanted_of_many_stored(self):
        for scheme in SCHEMES:
            for stored in several(plain_rollups(scheme), 8, 1):
                for wanted in plain_rollups(scheme):
                    self.assert_same(answer(scheme, stored, wanted), plain_answer(scheme, stored, wanted))

    def test_the_two_tables_show_it(self):
        for scheme in SCHEMES + (MANY_ROLLUPS,):
            for wanted in plain_rollups(scheme):
                stored = [rollup for rollup in plain_rollups(scheme) if not plain_fine(rollup, wanted)]
                word, one, other = answer(scheme, tuple(stored[-8:]), wanted)
                self.assertEqual(word, "tables")
                for rollup in stored:
                    self.assertEqual(plain_sums(scheme, one, rollup), plain_sums(scheme, other, rollup))
                self.assertNotEqual(plain_sums(scheme, one, wanted), plain_sums(scheme, other, wanted))

    def test_arguments_are_not_modified(self):
        self.assert_unchanged(answer, DOC_SCHEME, SOME_STORED, (1, 0))
        self.assert_unchanged(answer, DOC_SCHEME, SOME_STORED, (2, 1))


class ShowsAnswerTest(Checking):

    def assert_shows(self, scheme, stored, wanted, thing, expected):
        with self.subTest(shown((scheme, stored, wanted, thing))):
            self.assertIs(shows_answer(scheme, stored, wanted, thing), expected)

    def test_what_answer_returns(self):
        for scheme in SCHEMES:
            for stored in several(plain_rollups(scheme), 8, 2)[::3]:
                for wanted in plain_rollups(scheme):
                    self.assert_shows(scheme, stored, wanted, plain_answer(scheme, stored, wanted), True)

    def test_any_position_that_is_fine_enough(self):
        stored = ((2, 0), (0, 0), (1, 1), (2, 1), (1, 1), (0, 1), (1, 0))
        for place in range(-9, 10):
            self.assert_shows(DOC_SCHEME, stored, (1, 1), ("from", place), place in (1, 2, 4, 5, 6))
        self.assert_shows(DOC_SCHEME, (), (2, 1), ("from", 0), False)
        self.assert_shows(DOC_SCHEME, stored, (1, 1), ("from", HUGE), False)
        self.assert_shows(DOC_SCHEME, stored, (1, 1), ("from", True), False)
        self.assert_shows(DOC_SCHEME, ((0, 0),), (1, 1), ("from", False), False)

    def test_all_positions(self):
        for scheme in SCHEMES:
            for stored in several(plain_rollups(scheme), 8, 3)[::5]:
                for wanted in plain_rollups(scheme):
                    for place in range(-2, 10):
                        thing = ("from", place)
                        self.assert_shows(scheme, stored, wanted, thing, place in plain_places(stored, wanted))

    def test_any_two_tables(self):
        word, one, other = TABLES_OF_DOC
        self.assert_shows(DOC_SCHEME, SOME_STORED, (1, 0), (word, other, one), True)
        self.assert_shows(DOC_SCHEME, SOME_STORED, (1, 0), (word, one, one), False)
        for table in tables(DOC_SCHEME):
            for number in (1, -1, 7, HUGE):
                changed = plus(table, times(plus(one, times(other, -1)), number))
                self.assert_shows(DOC_SCHEME, SOME_STORED, (1, 0), (word, table, changed), True)
                self.assert_shows(DOC_SCHEME, SOME_STORED, (1, 1), (word, table, changed), False)
                self.assert_shows(DOC_SCHEME, SOME_STORED, (0, 0), (word, table, changed), True)
                self.assert_shows(DOC_SCHEME, ((0, 1),), (1, 0), (word, table, changed), True)
                self.assert_shows(DOC_SCHEME, ((0, 1), (0, 0)), (1, 0), (word, table, changed), False)
                self.assert_shows(DOC_SCHEME, ((1, 1), (1, 0)), (1, 0), (word, table, changed), False)

    def test_tables_that_differ_at_one_stored_rollup(self):
        word, one, other = TABLES_OF_DOC
        for at in range(12):
            thing = (word, one[:at] + (one[at] + 1,) + one[at + 1:], other)
            self.assert_shows(DOC_SCHEME, SOME_STORED, (1, 0), thing, False)
            self.assert_shows(DOC_SCHEME, (), (1, 0), thing, True)

    def test_all_small_tables(self):
        scheme = ((2, ((0, 0),)), (2, ((0, 0),)))
        every = list(itertools.product((0, 1), repeat=4))
        for stored in ((), ((0, 1),), ((1, 0), (0, 1)), ((1, 1), (1, 1)), ((0, 0), (1, 1))):
            for wanted in plain_rollups(scheme):
                for one, other in itertools.product(every, repeat=2):
                    thing = ("tables", one, other)
                    expected = plain_shows_answer(scheme, stored, wanted, thing)
                    self.assertIs(shows_answer(scheme, stored, wanted, thing), expected)

    def test_one_part_otherwise(self):
        for scheme, stored, wanted in (
            (DOC_SCHEME, SOME_STORED, (1, 0)), (DOC_SCHEME, ((2, 0), (1, 1)), (2, 1)), (SINGLE, (), (0,)),
            (SINGLE, ((0,),), (0,)), (TRIPLE, ((1, 0, 0),), (0, 0, 1)), (MIXED, ((0, 1), (0, 0)), (0, 0)),
        ):
            for thing in broken(plain_answer(scheme, stored, wanted)):
                self.assert_shows(scheme, stored, wanted, thing, False)

    def test_other_words(self):
        for word in ("From", "from ", "", "tables", "table", "clash", None, 0, ("from",)):
            self.assert_shows(SINGLE, ((0,),), (0,), (word, 0), False)
        for word in ("Tables", "tables\n", "", "from", "table", None, 0, ["tables"]):
            self.assert_shows(SINGLE, (), (0,), (word, (1,), (0,)), False)

    def test_any_value(self):
        for thing in other_kinds():
            for wrapped in (thing, ("from", thing), ("tables", thing, thing), ("tables", DOC_TABLE, thing),
                            ("tables", thing, DOC_TABLE), (thing, 0), (thing, DOC_TABLE, DOC_TABLE)):
                for stored in ((), ((0, 0),), SOME_STORED):
                    expected = plain_shows_answer(DOC_SCHEME, stored, (1, 0), wrapped)
                    self.assert_shows(DOC_SCHEME, stored, (1, 0), wrapped, expected)
        self.assert_shows(DOC_SCHEME, (), (1, 0), nested(20), False)

    def test_arguments_are_not_modified(self):
        for thing in other_kinds() + [TABLES_OF_DOC, ("from", 0), ["from", [0]], ("tables", [0] * 12, [1] * 12)]:
            self.assert_unchanged(shows_answer, DOC_SCHEME, SOME_STORED, (1, 0), thing)


class AnswerExceptionsTest(Checking):

    def each_function(self):
        """The two functions, the second one with a right and a wrong value to be checked."""
        yield answer
        for thing in (("from", 0), TABLES_OF_DOC, None, [[]]):
            yield lambda scheme, stored, wanted, thing=thing: shows_answer(scheme, stored, wanted, thing)

    def test_exceptions(self):
        for function in self.each_function():
            for thing in list(NO_SCHEMES) + other_kinds():
                self.assert_raises_exactly(SchemeError, function, thing, SOME_STORED, (1, 0))
            for thing in wrong_stored():
                self.assert_raises_exactly(StoredError, function, DOC_SCHEME, thing, (1, 0))
            for thing in list(WRONG_ROLLUPS) + other_kinds():
                self.assert_raises_exactly(RollupError, function, DOC_SCHEME, SOME_STORED, thing)
                self.assert_raises_exactly(RollupError, function, DOC_SCHEME, (), thing)

    def test_the_first_of_several(self):
        for function in self.each_function():
            self.assert_raises_exactly(SchemeError, function, None, None, None)
            self.assert_raises_exactly(SchemeError, function, None, SOME_STORED, None)
            self.assert_raises_exactly(SchemeError, function, None, None, (1, 0))
            self.assert_raises_exactly(StoredError, function, DOC_SCHEME, None, None)
            self.assert_raises_exactly(StoredError, function, DOC_SCHEME, ((0, 0),) * 9, (3, 0))

    def test_up_to_eight(self):
        for many in range(9):
            answer(DOC_SCHEME, ((0, 0),) * many, (1, 0))
        for many in (9, 10, 8000):
            self.assert_raises_exactly(StoredError, answer, DOC_SCHEME, ((0, 0),) * many, (1, 0))

    def test_rollups_of_another_scheme(self):
        self.assert_raises_exactly(StoredError, answer, DEEP, ((0, 0),), (0,))
        self.assert_raises_exactly(RollupError, answer, DEEP, ((0,),), (0, 0))
        self.assert_raises_exactly(StoredError, answer, DEEP, ((4,),), (0,))
        self.assert_raises_exactly(RollupError, answer, DEEP, ((3,),), (4,))


class OwnCellTest(Checking):

    def test_written_out(self):
        self.assert_same(own_cell(DOC_SCHEME, (0, 0), (2, 0)), ((0, 1), (2, 0)))
        self.assert_same(own_cell(DOC_SCHEME, (0, 0), (2, 1)), ((0, 0), (2, 1)))
        self.assert_same(own_cell(DOC_SCHEME, (2, 1), (0, 1)), ((2, 1), (0, 1)))
        self.assert_same(own_cell(DEEP, (0,), (2,)), ((3,), (0,)))
        self.assert_same(own_cell(DEEP, (0,), (3,)), ((1,), (3,)))
        self.assert_same(own_cell(DEEP, (1,), (0,)), ((2,), (2,)))
        self.assert_same(own_cell(DEEP, (2,), (1,)), ((3,), (0,)))

    def test_kept_up_to_the_last_level(self):
        self.assert_same(own_cell(KEPT, (0, 0), (0, 1)), ((3, 0), (0, 1)))
        self.assert_same(own_cell(KEPT, (0, 0), (3, 1)), ((1, 0), (2, 1)))
        self.assert_same(own_cell(KEPT, (1, 1), (1, 0)), ((2, 1), (1, 0)))

    def test_a_single_value_without_steps(self):
        self.assert_same(own_cell(SINGLE, (0,), (0,)), ((0,), (0,)))
        self.assert_same(own_cell(FLAT, (0,), (5,)), ((0,), (5,)))

    def test_all_cells(self):
        for scheme in SCHEMES + (MANY_ROLLUPS,):
            for rollup in plain_rollups(scheme):
                for cell in plain_cells(scheme, rollup):
                    found = own_cell(scheme, rollup, cell)
                    self.assert_same(found, plain_own(scheme, rollup, cell))
                    self.assertEqual(plain_groups(scheme, *found), plain_groups(scheme, rollup, cell))

    def test_arguments_are_not_modified(self):
        self.assert_unchanged(own_cell, KEPT, (0, 0), (0, 1))

    def test_exceptions(self):
        for thing in list(NO_SCHEMES) + other_kinds():
            self.assert_raises_exactly(SchemeError, own_cell, thing, (1, 0), (0, 0))
        for thing in list(WRONG_ROLLUPS) + other_kinds():
            self.assert_raises_exactly(RollupError, own_cell, DOC_SCHEME, thing, (0, 0))
        for thing in wrong_cells():
            self.assert_raises_exactly(CellError, own_cell, DOC_SCHEME, (1, 0), thing)

    def test_the_first_of_several_exceptions(self):
        self.assert_raises_exactly(SchemeError, own_cell, None, None, None)
        self.assert_raises_exactly(RollupError, own_cell, DOC_SCHEME, None, None)
        self.assert_raises_exactly(RollupError, own_cell, DOC_SCHEME, (3, 0), (9, 9))


def wrong_cells():
    """Values that are no cells of the document's scheme at (1, 0)."""
    return other_kinds() + [
        (), (0,), (0, 0, 0), (2, 0), (0, 3), (-1, 0), (0, -1), (HUGE, 0), (True, 0), (0, True), [1, 2], (1, None),
        ("1", "2"), ((1,), (2,)), (1, [2]),
    ]


class AnswerCellTest(Checking):

    def assert_answer(self, scheme, stored, wanted, cell, expected):
        with self.subTest(shown((scheme, stored, wanted, cell))):
            self.assert_same(answer_cell(scheme, stored, wanted, cell), expected)

    def test_a_cell_that_a_coarser_rollup_has(self):
        # The value 0 of the second attribute is a group of its own.
        self.assert_answer(DOC_SCHEME, SOME_STORED, (1, 0), (1, 0), ("from", 0))
        self.assert_answer(DOC_SCHEME, SOME_STORED, (2, 0), (0, 0), ("from", 0))
        self.assert_answer(DOC_SCHEME, SOME_STORED, (2, 0), (0, 1), ("from", 1))

    def test_written_out(self):
        word, one, other = TABLES_OF_DOC
        self.assert_answer(DOC_SCHEME, SOME_STORED, (1, 0), (0, 1), (word, one, other))
        self.assert_answer(DOC_SCHEME, SOME_STORED, (1, 0), (1, 2), (word, one, other))
        self.assert_answer(DOC_SCHEME, SOME_STORED, (1, 0), (0, 2), (word, other, one))

    def test_the_second_value_may_be_the_lesser_one(self):
        self.assert_answer(DEEP, (), (1,), (3,), ("tables", (0, 0, 0, 1, 0, 0), (0, 1, 0, 0, 0, 0)))
        self.assert_answer(DEEP, ((1,),), (0,), (5,), ("tables", (0, 0, 0, 0, 0, 1), (1, 0, 0, 0, 0, 0)))
        found = answer_cell(DOC_SCHEME, ((1, 1),), (0, 0), (3, 2))
        self.assertEqual([at for at, amount in enumerate(found[1]) if amount], [7, 11])
        self.assertEqual([at for at, amount in enumerate(found[2]) if amount], [8, 10])

    def test_only_one_value_of_the_last_level(self):
        self.assert_answer(SINGLE, (), (0,), (0,), ("tables", (1,), (0,)))
        self.assert_answer(FLAT, (), (0,), (4,), ("tables", (0, 0, 0, 0, 1, 0), (0,) * 6))
        self.assert_answer(KEPT, (), (0, 1), (0, 0), ("tables", (1,) + (0,) * 9, (0,) * 10))
        self.assert_answer(KEPT, (), (3, 1), (1, 0), ("tables", (0, 0, 1) + (0,) * 7, (0,) * 10))

    def test_all_cells_of_many_stored(self):
        for scheme in SCHEMES:
            every = several(plain_rollups(scheme), 8, 4)
            for stored in every if table_length(scheme) < 30 else every[::9]:
                for wanted in plain_rollups(scheme):
                    for cell in plain_cells(scheme, wanted):
                        found = answer_cell(scheme, stored, wanted, cell)
                        self.assert_same(found, plain_answer_cell(scheme, stored, wanted, cell))

    def test_the_two_tables_show_it(self):
        for scheme in SCHEMES:
            for wanted in plain_rollups(scheme):
                for cell in plain_cells(scheme, wanted):
                    own = plain_own(scheme, wanted, cell)[0]
                    stored = [rollup for rollup in plain_rollups(scheme) if not plain_fine(rollup, own)]
                    word, one, other = answer_cell(scheme, tuple(stored[:8]), wanted, cell)
                    self.assertEqual(word, "tables")
                    for rollup in stored:
                        self.assertEqual(plain_sums(scheme, one, rollup), plain_sums(scheme, other, rollup))
                    found = (sum_in(scheme, one, wanted, cell), sum_in(scheme, other, wanted, cell))
                    self.assert_same(found, (1, 0))

    def test_arguments_are_not_modified(self):
        self.assert_unchanged(answer_cell, DOC_SCHEME, SOME_STORED, (1, 0), (0, 1))
        self.assert_unchanged(answer_cell, DOC_SCHEME, SOME_STORED, (1, 0), (0, 0))


class ShowsAnswerCellTest(Checking):

    def assert_shows(self, scheme, stored, wanted, cell, thing, expected):
        with self.subTest(shown((scheme, stored, wanted, cell, thing))):
            self.assertIs(shows_answer_cell(scheme, stored, wanted, cell, thing), expected)

    def test_what_answer_cell_returns(self):
        for scheme in SCHEMES:
            for stored in several(plain_rollups(scheme), 8, 5)[::9]:
                for wanted in plain_rollups(scheme):
                    for cell in plain_cells(scheme, wanted):
                        thing = plain_answer_cell(scheme, stored, wanted, cell)
                        self.assert_shows(scheme, stored, wanted, cell, thing, True)

    def test_any_position_that_is_fine_enough(self):
        stored = ((2, 0), (0, 0), (1, 1), (2, 1), (1, 1), (0, 1), (1, 0))
        for place in range(-9, 10):
            self.assert_shows(DOC_SCHEME, stored, (1, 0), (1, 0), ("from", place), place in (1, 2, 4, 5, 6))
            self.assert_shows(DOC_SCHEME, stored, (1, 0), (1, 1), ("from", place), place in (1, 6))
        self.assert_shows(DOC_SCHEME, stored, (1, 0), (1, 0), ("from", True), False)
        self.assert_shows(DOC_SCHEME, (), (2, 1), (0, 0), ("from", 0), False)

    def test_any_two_tables(self):
        word, one, other = TABLES_OF_DOC
        for table in tables(DOC_SCHEME):
            for number in (1, -1, 7, HUGE):
                changed = plus(table, times(plus(one, times(other, -1)), number))
                for cell in plain_cells(DOC_SCHEME, (1, 0)):
                    expected = cell[1] != 0
                    self.assert_shows(DOC_SCHEME, SOME_STORED, (1, 0), cell, (word, table, changed), expected)
                    self.assert_shows(DOC_SCHEME, ((0, 0),), (1, 0), cell, (word, table, changed), False)

    def test_tables_that_differ_at_other_cells_only(self):
        one, other = (1,) + (0,) * 5, (0, 0, 0, 0, 0, 1)
        for value in range(6):
            self.assert_shows(DEEP, ((1,),), (0,), (value,), ("tables", one, other), value in (0, 5))
            self.assert_shows(DEEP, ((0,),), (0,), (value,), ("tables", one, other), False)

    def test_all_small_tables(self):
        scheme = ((2, ((0, 0),)), (2, ((0, 0),)))
        every = list(itertools.product((0, 1), repeat=4))
        for stored in ((), ((0, 1),), ((1, 0), (0, 1)), ((1, 1), (1, 1)), ((0, 0), (1, 1))):
            for wanted in plain_rollups(scheme):
                for one, other in itertools.product(every, repeat=2):
                    thing = ("tables", one, other)
                    alike = plain_are_alike(scheme, stored, thing)
                    for cell in plain_cells(scheme, wanted):
                        differ = sum_in(scheme, one, wanted, cell) != sum_in(scheme, other, wanted, cell)
                        found = shows_answer_cell(scheme, stored, wanted, cell, thing)
                        self.assertIs(found, alike and differ)

    def test_one_part_otherwise(self):
        for scheme, stored, wanted, cell in (
            (DOC_SCHEME, SOME_STORED, (1, 0), (1, 2)), (DOC_SCHEME, ((2, 0), (1, 1)), (1, 0), (1, 0)),
            (SINGLE, (), (0,), (0,)), (SINGLE, ((0,),), (0,), (0,)), (KEPT, ((2, 0), (0, 1)), (1, 0), (3, 1)),
        ):
            for thing in broken(plain_answer_cell(scheme, stored, wanted, cell)):
                self.assert_shows(scheme, stored, wanted, cell, thing, False)

    def test_any_value(self):
        for thing in other_kinds():
            for wrapped in (thing, ("tables", thing, thing), ("tables", DOC_TABLE, thing),
                            ("tables", thing, DOC_TABLE), (thing, 0), (thing, DOC_TABLE, DOC_TABLE)):
                for stored in ((), ((0, 0),), SOME_STORED):
                    self.assert_shows(DOC_SCHEME, stored, (1, 0), (1, 0), wrapped, False)
            expected = plain_is_integer(thing) and thing == 0
            self.assert_shows(DOC_SCHEME, SOME_STORED, (1, 0), (1, 0), ("from", thing), expected)

    def test_arguments_are_not_modified(self):
        for thing in other_kinds() + [TABLES_OF_DOC, ("from", 0), ["from", [0]], ("tables", [0] * 12, [1] * 12)]:
            self.assert_unchanged(shows_answer_cell, DOC_SCHEME, SOME_STORED, (1, 0), (1, 2), thing)


class AnswerCellExceptionsTest(Checking):

    def each_function(self):
        """The two functions, the second one with a right and a wrong value to be checked."""
        yield answer_cell
        for thing in (("from", 0), TABLES_OF_DOC, None, [[]]):
            yield lambda *given, thing=thing: shows_answer_cell(*given, thing)

    def test_exceptions(self):
        for function in self.each_function():
            for thing in list(NO_SCHEMES) + other_kinds():
                self.assert_raises_exactly(SchemeError, function, thing, SOME_STORED, (1, 0), (0, 0))
            for thing in wrong_stored():
                self.assert_raises_exactly(StoredError, function, DOC_SCHEME, thing, (1, 0), (0, 0))
            for thing in list(WRONG_ROLLUPS) + other_kinds():
                self.assert_raises_exactly(RollupError, function, DOC_SCHEME, SOME_STORED, thing, (0, 0))
            for thing in wrong_cells():
                self.assert_raises_exactly(CellError, function, DOC_SCHEME, SOME_STORED, (1, 0), thing)
                self.assert_raises_exactly(CellError, function, DOC_SCHEME, (), (1, 0), thing)

    def test_the_first_of_several(self):
        for function in self.each_function():
            self.assert_raises_exactly(SchemeError, function, None, None, None, None)
            self.assert_raises_exactly(SchemeError, function, None, SOME_STORED, (1, 0), None)
            self.assert_raises_exactly(StoredError, function, DOC_SCHEME, None, None, None)
            self.assert_raises_exactly(StoredError, function, DOC_SCHEME, ((0, 0),) * 9, (1, 0), None)
            self.assert_raises_exactly(RollupError, function, DOC_SCHEME, SOME_STORED, None, None)
            self.assert_raises_exactly(RollupError, function, DOC_SCHEME, SOME_STORED, (3, 0), (9, 9))

    def test_a_cell_of_another_rollup(self):
        for function in self.each_function():
            self.assert_raises_exactly(CellError, function, DOC_SCHEME, SOME_STORED, (1, 1), (1, 2))
            self.assert_raises_exactly(CellError, function, DOC_SCHEME, SOME_STORED, (2, 1), (1, 1))


if __name__ == "__main__":
    unittest.main()
