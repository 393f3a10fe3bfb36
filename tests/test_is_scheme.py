"""is_scheme, for any value [10], with the rules on integers and kinds [2]."""

import itertools
import unittest

from checking import Checking, shown
from rolluplevels.schemes import is_scheme
from samples import DOC_SCHEME, HUGE, SCHEMES, other_kinds


class SchemesTest(Checking):

    def assert_scheme(self, thing, expected):
        with self.subTest(shown(thing)):
            self.assertIs(is_scheme(thing), expected)

    def assert_attribute(self, attribute, expected):
        """At each position: the attribute is checked wherever it stands."""
        flat = (2, ())
        self.assert_scheme((attribute,), expected)
        self.assert_scheme((attribute, flat), expected)
        self.assert_scheme((flat, attribute), expected)
        self.assert_scheme((flat, flat, attribute), expected)
        self.assert_scheme((flat, attribute, flat), expected)

    def assert_steps(self, many, steps, expected):
        self.assert_attribute((many, steps), expected)

    def test_samples(self):
        for scheme in SCHEMES:
            self.assert_scheme(scheme, True)

    def test_number_of_attributes(self):
        self.assert_scheme((), False)
        self.assert_scheme(((1, ()),), True)
        self.assert_scheme(((1, ()),) * 2, True)
        self.assert_scheme(((1, ()),) * 3, True)
        self.assert_scheme(((1, ()),) * 4, False)

    def test_number_of_values(self):
        for many in range(1, 7):
            self.assert_attribute((many, ()), True)
        for many in (0, -1, 7, 60, 9_999_999_999_999, -9_999_999_999_999, HUGE):
            self.assert_scheme(((many, ()),), False)

    def test_a_product_within_the_limit_does_not_excuse_negative_numbers(self):
        self.assert_scheme(((-2, ()), (-3, ())), False)
        self.assert_scheme(((0, ()), (3, ())), False)

    def test_number_of_cells(self):
        self.assert_scheme(((5, ()), (6, ()), (2, ())), True)
        self.assert_scheme(((4, ()), (5, ()), (3, ())), True)
        self.assert_scheme(((6, ()), (6, ())), True)
        self.assert_scheme(((6, ()), (5, ()), (3, ())), False)
        self.assert_scheme(((4, ()), (4, ()), (4, ())), False)
        self.assert_scheme(((6, ()), (6, ()), (2, ())), False)
        self.assert_scheme(((6, ()), (6, ()), (1, ())), True)
        self.assert_scheme(((6, ()), (6, ()), (6, ())), False)

    def test_coarser_levels_do_not_count_as_cells(self):
        halved = (6, ((0, 0, 0, 1, 1, 1), (0, 0)))
        self.assert_scheme((halved, (5, ()), (2, ())), True)
        self.assert_scheme((halved, (6, ()), (2, ())), False)

    def test_every_number_of_cells(self):
        for counts in itertools.product(range(1, 7), repeat=3):
            expected = counts[0] * counts[1] * counts[2] <= 60
            self.assert_scheme(tuple((many, ()) for many in counts), expected)

    def test_number_of_steps(self):
        steps = ((0, 1, 2, 3, 0), (0, 1, 2, 0), (0, 1, 0), (0, 0))
        for many in range(4):
            self.assert_steps(5, steps[:many], True)
        self.assert_steps(5, steps, False)

    def test_one_value_has_no_step(self):
        self.assert_steps(1, ((0,),), False)
        self.assert_steps(1, ((),), False)
        self.assert_steps(2, ((0, 0), (0,)), False)

    def test_all_steps_of_few_groups(self):
        # As many as there are maps onto fewer groups.
        for many, expected in ((1, 0), (2, 1), (3, 1 + 6), (4, 1 + 14 + 36)):
            steps = itertools.product(range(-1, many + 1), repeat=many)
            found = [step for step in steps if is_scheme(((many, (step,)),))]
            self.assertEqual(len(found), expected)
            for step in found:
                self.assertEqual(sorted(set(step)), list(range(max(step) + 1)))
                self.assertLess(max(step) + 1, many)

    def test_a_group_that_does_not_occur(self):
        self.assert_steps(4, ((0, 0, 2, 2),), False)
        self.assert_steps(4, ((1, 1, 1, 1),), False)
        self.assert_steps(4, ((1, 1, 2, 2),), False)
        self.assert_steps(4, ((0, 0, 0, HUGE),), False)
        self.assert_steps(4, ((0, 0, -1, 0),), False)
        self.assert_steps(4, ((-1, -1, -1, -1),), False)
        self.assert_steps(4, ((0, 1, 2, 2), (0, 2, 2)), False)

    def test_as_many_groups_as_below(self):
        self.assert_steps(3, ((0, 1, 2),), False)
        self.assert_steps(3, ((2, 0, 1),), False)
        self.assert_steps(3, ((0, 1, 1), (0, 1)), False)
        self.assert_steps(3, ((0, 1, 1), (1, 0)), False)
        self.assert_steps(3, ((0, 1, 1), (0, 0)), True)

    def test_a_step_of_a_wrong_length(self):
        self.assert_steps(4, ((0, 0, 1),), False)
        self.assert_steps(4, ((0, 0, 1, 1, 1),), False)
        self.assert_steps(4, ((),), False)
        self.assert_steps(4, ((0, 0, 1, 1), (0,)), False)
        self.assert_steps(4, ((0, 0, 1, 1), (0, 0, 0)), False)
        self.assert_steps(4, ((0, 0, 1, 1), (0, 0, 0, 0)), False)
        self.assert_steps(4, ((0, 1, 2, 2), (0, 1, 1), (0, 0, 0)), False)

    def test_group_numbers_need_not_ascend(self):
        self.assert_steps(4, ((1, 0, 2, 1), (0, 1, 1), (0, 0)), True)

    def test_a_bool_is_no_integer(self):
        self.assert_attribute((True, ()), False)
        self.assert_attribute((False, ()), False)
        self.assert_steps(2, ((False, False),), False)
        self.assert_steps(3, ((0, True, 1),), False)
        self.assert_steps(3, ((0, 1, True),), False)
        self.assert_steps(3, ((False, 1, 1),), False)
        self.assert_steps(3, ((0, 1, 1), (0, False)), False)

    def test_a_list_is_no_tuple(self):
        self.assert_scheme([(2, ())], False)
        self.assert_attribute([2, ()], False)
        self.assert_steps(2, [], False)
        self.assert_steps(2, [(0, 0)], False)
        self.assert_steps(2, ([0, 0],), False)
        self.assert_steps(3, ((0, 1, 1), [0, 0]), False)

    def test_attributes_of_another_form(self):
        for attribute in ((), (2,), (2, (), ()), (2, None), ((), 2), (2, 0), (2, "00"), ("2", ()), (None, ()),
                          (2, {}), (2, {0: (0, 0)}), ((2,), ()), (2, (0, 0)), (2, ("00",)), (2, ((0, "0"),)),
                          (2, ((0, None),)), (2, ((0, (0,)),)), (2, ((0, [0]),)), (2, ({0: 0, 1: 0},)),
                          (2, (None,)), "2 : 0 0", "ab", None, 2, True, {0: 2, 1: ()}, {2: ()}):
            self.assert_attribute(attribute, False)

    def test_any_value(self):
        for thing in other_kinds():
            self.assert_scheme(thing, False)
            self.assert_scheme((thing,), False)
            self.assert_scheme((DOC_SCHEME[0], thing), False)
            self.assert_scheme(((thing, ()),), is_one(thing))
            self.assert_scheme(((3, thing),), False)
            self.assert_scheme(((2, (thing,)),), False)
            self.assert_scheme(((2, ((0, thing),)),), is_zero(thing))

    def test_arguments_are_not_modified(self):
        for thing in other_kinds() + list(SCHEMES):
            self.assert_unchanged(is_scheme, thing)


def is_one(thing):
    return type(thing) is int and thing == 1


def is_zero(thing):
    return type(thing) is int and thing == 0


if __name__ == "__main__":
    unittest.main()
