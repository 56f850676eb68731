import fractions
import inspect
import itertools
import unittest

from watchyard import bounds as own
from watchyard.bounds import bound_sum, keeps, tighter, tighter_of

SIXTY = 10 ** 60 - 1
BEYOND_SHOWING = 10 ** 6000 + 1
NUMBERS = (-SIXTY, -SIXTY + 1, -20, -2, -1, 0, 1, 2, 3, 60, SIXTY - 1, SIXTY)
BOUNDS = [None] + [(number, strict) for number in NUMBERS for strict in (False, True)]


def parts_about(number):
    """Fractions at the number, and just and far below and above it."""
    parts = [fractions.Fraction(number)]
    for step in (fractions.Fraction(1, SIXTY), fractions.Fraction(1, 2), fractions.Fraction(1), fractions.Fraction(7)):
        parts = parts + [number - step, number + step]
    return parts


def told(part):
    return (part.numerator, part.denominator)


class Keeps(unittest.TestCase):
    def test_none_is_kept_always(self):
        for part in [(0, 1), (1, 2), (-1, 2), (SIXTY, 1), (-SIXTY, 1), (1, SIXTY), (BEYOND_SHOWING, 2)]:
            self.assertIs(keeps(part, None), True)

    def test_at_the_number(self):
        for number in NUMBERS + (BEYOND_SHOWING,):
            self.assertIs(keeps((number, 1), (number, False)), True)
            self.assertIs(keeps((number, 1), (number, True)), False)

    def test_just_below_and_just_above(self):
        for number in NUMBERS + (BEYOND_SHOWING,):
            for bottom in (2, 3, SIXTY):
                for strict in (False, True):
                    self.assertIs(keeps((number * bottom - 1, bottom), (number, strict)), True)
                    self.assertIs(keeps((number * bottom + 1, bottom), (number, strict)), False)

    def test_a_whole_number_below_and_above(self):
        for number in NUMBERS:
            for strict in (False, True):
                self.assertIs(keeps((number - 1, 1), (number, strict)), True)
                self.assertIs(keeps((number + 1, 1), (number, strict)), False)

    def test_far_off(self):
        for strict in (False, True):
            self.assertIs(keeps((-SIXTY, 1), (SIXTY, strict)), True)
            self.assertIs(keeps((SIXTY, 1), (-SIXTY, strict)), False)

    def test_against_exact_values(self):
        for number in NUMBERS:
            for part in parts_about(number):
                self.assertIs(keeps(told(part), (number, False)), part <= number)
                self.assertIs(keeps(told(part), (number, True)), part < number)


class Tighter(unittest.TestCase):
    def test_none_is_tighter_than_itself(self):
        for bound in BOUNDS:
            self.assertIs(tighter(bound, bound), False, bound)

    def test_strict_is_tighter(self):
        for number in NUMBERS + (BEYOND_SHOWING,):
            self.assertIs(tighter((number, True), (number, False)), True)
            self.assertIs(tighter((number, False), (number, True)), False)

    def test_each_is_tighter_than_none(self):
        for bound in BOUNDS[1:]:
            self.assertIs(tighter(bound, None), True, bound)
            self.assertIs(tighter(None, bound), False, bound)

    def test_the_lesser_number_is_tighter_strict_or_not(self):
        for number in NUMBERS:
            for one, other in itertools.product((False, True), repeat=2):
                self.assertIs(tighter((number, one), (number + 1, other)), True)
                self.assertIs(tighter((number + 1, one), (number, other)), False)

    def test_of_unlike_ones_just_one_is_tighter(self):
        for one, other in itertools.product(BOUNDS, repeat=2):
            if one != other:
                self.assertIs(tighter(one, other), not tighter(other, one), (one, other))

    def test_fewer_fractions_keep_the_tighter(self):
        parts = [told(part) for number in NUMBERS for part in parts_about(number)] + [(SIXTY * 9, 1)]
        for one, other in itertools.product(BOUNDS, repeat=2):
            keep_one = {part for part in parts if keeps(part, one)}
            keep_other = {part for part in parts if keeps(part, other)}
            self.assertIs(tighter(one, other), keep_one < keep_other, (one, other))


class TighterOf(unittest.TestCase):
    def test_one_of_both_than_which_neither_is_tighter(self):
        for one, other in itertools.product(BOUNDS, repeat=2):
            told = tighter_of(one, other)
            self.assertIn(told, (one, other))
            self.assertFalse(tighter(one, told) or tighter(other, told), (one, other))


class BoundSum(unittest.TestCase):
    def test_none_where_one_of_them_is(self):
        for bound in BOUNDS:
            self.assertIsNone(bound_sum(bound, None))
            self.assertIsNone(bound_sum(None, bound))

    def test_plain_ones(self):
        self.assertEqual(bound_sum((1, False), (2, False)), (3, False))
        self.assertEqual(bound_sum((1, True), (2, False)), (3, True))
        self.assertEqual(bound_sum((1, False), (2, True)), (3, True))
        self.assertEqual(bound_sum((1, True), (-2, True)), (-1, True))

    def test_numbers_and_truths(self):
        for one, other in itertools.product(BOUNDS[1:], repeat=2):
            total = bound_sum(one, other)
            self.assertIs(type(total), tuple)
            self.assertEqual([type(thing) for thing in total], [int, bool])
            self.assertEqual(total, (one[0] + other[0], one[1] or other[1]))

    def test_either_way_about(self):
        for one, other in itertools.product(BOUNDS, repeat=2):
            self.assertEqual(bound_sum(one, other), bound_sum(other, one))

    def test_put_together_either_way(self):
        few = [None, (-SIXTY, True), (-3, False), (0, False), (0, True), (5, False), (SIXTY, True)]
        for one, other, third in itertools.product(few, repeat=3):
            self.assertEqual(bound_sum(bound_sum(one, other), third), bound_sum(one, bound_sum(other, third)))

    def test_nought_leaves_it_be(self):
        for bound in BOUNDS:
            self.assertEqual(bound_sum(bound, (0, False)), bound)

    def test_what_was_told_may_be_handed_in_again_however_great(self):
        total = (SIXTY, False)
        for unused in range(300):
            total = bound_sum(total, total)
        self.assertEqual(total, (SIXTY * 2 ** 300, False))
        self.assertIs(tighter((SIXTY, False), total), True)
        self.assertIs(keeps((total[0], 1), total), True)
        self.assertIs(keeps((total[0] * 3 + 1, 3), total), False)

    def test_asked_again_the_same_is_told(self):
        for unused in range(3):
            self.assertEqual(bound_sum((4, True), (-6, False)), (-2, True))
            self.assertIs(tighter((4, True), (4, False)), True)
            self.assertIs(keeps((4, 1), (4, True)), False)


class Interface(unittest.TestCase):
    def test_names_and_arguments(self):
        arguments = {"keeps": "(part, bound)", "tighter": "(one, other)", "bound_sum": "(one, other)"}
        for name, expected in arguments.items():
            self.assertEqual(str(inspect.signature(getattr(own, name))), expected, name)


if __name__ == "__main__":
    unittest.main()
