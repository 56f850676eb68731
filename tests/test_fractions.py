import copy
import decimal
import enum
import fractions
import inspect
import math
import random
import unittest

from watchyard import fractions as own
from watchyard.errors import NoAct, NoAsk, NoFraction, NoMove, NoNet, NoPoint, NoWait, WatchError
from watchyard.fractions import floor_of, fraction, is_fraction, is_whole, less, minus, plus, times

SIXTY = 10 ** 60 - 1
# A number of more figures than Python shows of an int without being asked to.
BEYOND_SHOWING = 10 ** 6000 + 1


class Unshowable:
    """Fails at whatever it is asked: nothing may be asked of it but its kind."""

    def fail(self, *unused):
        raise RuntimeError("asked")

    __eq__ = __lt__ = __gt__ = __le__ = __ge__ = __bool__ = __repr__ = __str__ = __len__ = __iter__ = fail
    __hash__ = None


class Countlike:
    """Has a whole number to tell and yet is none."""

    def __index__(self):
        return 3

    __int__ = __index__


class Colour(enum.IntEnum):
    RED = 3


def no_wholes():
    return [
        True, False, None, "", "1", "one", b"1", [], [1], [1, 2], (), (1,), (1, 2), {}, {1: 2}, set(), {1},
        frozenset([1]), 0.0, 1.0, 2.5, -1e300, float("inf"), float("nan"), 1j, fractions.Fraction(1, 2),
        fractions.Fraction(3), decimal.Decimal(1), range(3), int, int("3").__add__, len, object(), NoFraction("x"),
        Countlike(), Unshowable(), ..., iter([1]),
    ]


def some_numbers(chance):
    numbers = list(range(-7, 8)) + [12, -12, 30, 60, 97, SIXTY, -SIXTY, 10 ** 59, -(10 ** 59), 2 ** 190, 6 ** 70]
    for figures in (2, 5, 20, 40, 60):
        for sign in (1, -1):
            numbers.append(sign * chance.randrange(10 ** (figures - 1), 10 ** figures))
    return numbers


def some_fractions(count, seed):
    chance = random.Random(seed)
    numbers = some_numbers(chance)
    bottoms = [number for number in numbers if number > 0]
    made = [lowest(chance.choice(numbers), chance.choice(bottoms)) for unused in range(count)]
    return made + [(0, 1), (1, 1), (-1, 1), (1, 2), (-1, 2), (SIXTY, 1), (1, SIXTY), (-SIXTY, SIXTY - 1)]


def lowest(top, bottom):
    exact = fractions.Fraction(top, bottom)
    return (exact.numerator, exact.denominator)


def exactly(one):
    return fractions.Fraction(one[0], one[1])


class Told(unittest.TestCase):
    def assert_told(self, told, top, bottom):
        self.assertIs(type(told), tuple)
        self.assertEqual([type(number) for number in told], [int, int])
        self.assertEqual(told, lowest(top, bottom))
        self.assertGreaterEqual(told[1], 1)
        self.assertEqual(math.gcd(told[0], told[1]), 1)
        self.assertIs(is_fraction(told), True)


class IsWhole(unittest.TestCase):
    def test_ints(self):
        for number in (0, 1, -1, 255, 256, 257, SIXTY, -SIXTY, 10 ** 60, BEYOND_SHOWING, -BEYOND_SHOWING):
            self.assertIs(is_whole(number), True)

    def test_an_int_of_another_class_is_an_int(self):
        self.assertIs(is_whole(Colour.RED), True)

    def test_truths_are_none(self):
        self.assertIs(is_whole(True), False)
        self.assertIs(is_whole(False), False)

    def test_anything_else_is_none(self):
        for place, thing in enumerate(no_wholes()):
            self.assertIs(is_whole(thing), False, place)


class IsFraction(unittest.TestCase):
    def test_fractions(self):
        for thing in [(0, 1), (1, 1), (-1, 1), (1, 2), (-1, 2), (3, 2), (-7, 3), (SIXTY, 1), (-SIXTY, SIXTY - 1),
                      (1, SIXTY), (2 ** 190, 3 ** 120), (BEYOND_SHOWING, 1), (1, BEYOND_SHOWING),
                      (BEYOND_SHOWING - 1, BEYOND_SHOWING)]:
            self.assertIs(is_fraction(thing), True)

    def test_not_in_lowest_terms(self):
        for thing in [(0, 2), (0, SIXTY), (2, 2), (2, 4), (-2, 4), (6, 3), (SIXTY, SIXTY), (-SIXTY, SIXTY),
                      (2 ** 190, 2 ** 100), (SIXTY * 2, 4), (BEYOND_SHOWING * 3, 9)]:
            self.assertIs(is_fraction(thing), False)

    def test_a_bottom_of_0_or_less(self):
        for thing in [(0, 0), (1, 0), (-1, 0), (0, -1), (1, -1), (1, -2), (-1, -2), (3, -SIXTY), (SIXTY, 0)]:
            self.assertIs(is_fraction(thing), False, thing)

    def test_tuples_of_another_length(self):
        for thing in [(), (1,), (0,), (1, 2, 3), (1, 2, 1), (0, 1, 0, 1), ((1, 2),), ((1, 2), (1, 3), 1)]:
            self.assertIs(is_fraction(thing), False, thing)

    def test_other_things_in_the_places(self):
        for place, thing in enumerate(no_wholes()):
            self.assertIs(is_fraction((thing, 1)), False, place)
            self.assertIs(is_fraction((0, thing)), False, place)
            self.assertIs(is_fraction((1, thing)), False, place)
            self.assertIs(is_fraction((thing, thing)), False, place)

    def test_truths_in_the_places(self):
        for thing in [(True, 1), (False, 1), (1, True), (0, True), (True, True), (False, True), (1, False)]:
            self.assertIs(is_fraction(thing), False, thing)

    def test_anything_else_is_none(self):
        for place, thing in enumerate(no_wholes()):
            if thing.__class__ is not tuple or thing != (1, 2):
                self.assertIs(is_fraction(thing), False, place)

    def test_other_kinds_with_the_right_numbers(self):
        for thing in [[1, 2], [0, 1], {1: 2}, {0: 1, 1: 2}, "12", range(1, 3), 1, 0, fractions.Fraction(1, 2)]:
            self.assertIs(is_fraction(thing), False, thing)

    def test_what_is_asked_of_is_not_changed(self):
        thing = ([1], {2: 3})
        self.assertIs(is_fraction(thing), False)
        self.assertEqual(thing, ([1], {2: 3}))
        pair = [1, 2]
        self.assertIs(is_fraction(pair), False)
        self.assertEqual(pair, [1, 2])


class Made(Told):
    def test_plain_ones(self):
        self.assertEqual(fraction(1, 2), (1, 2))
        self.assertEqual(fraction(2, 4), (1, 2))
        self.assertEqual(fraction(-2, 4), (-1, 2))
        self.assertEqual(fraction(2, -4), (-1, 2))
        self.assertEqual(fraction(-2, -4), (1, 2))
        self.assertEqual(fraction(6, 3), (2, 1))
        self.assertEqual(fraction(6, -3), (-2, 1))
        self.assertEqual(fraction(-5, -5), (1, 1))

    def test_nought(self):
        for bottom in (1, -1, 2, -7, SIXTY, -SIXTY):
            self.assert_told(fraction(0, bottom), 0, 1)
            self.assertEqual(fraction(0, bottom), (0, 1))
        self.assertEqual(fraction(0), (0, 1))

    def test_the_second_left_out(self):
        for number in (1, -1, 17, -17, SIXTY, -SIXTY, BEYOND_SHOWING):
            self.assertEqual(fraction(number), (number, 1))

    def test_by_the_arguments_names(self):
        self.assertEqual(fraction(top=4, bottom=-6), (-2, 3))
        self.assertEqual(fraction(4, bottom=6), (2, 3))
        self.assertEqual(fraction(top=4), (4, 1))

    def test_all_small_ones(self):
        for top in range(-25, 26):
            for bottom in range(-25, 26):
                if bottom != 0:
                    self.assert_told(fraction(top, bottom), top, bottom)

    def test_small_and_great_either_way_about(self):
        numbers = some_numbers(random.Random(1))
        for top in numbers:
            for bottom in numbers:
                if bottom != 0:
                    self.assert_told(fraction(top, bottom), top, bottom)

    def test_common_factors_small_and_great(self):
        for factor in (2, 3, 12, 97, 10 ** 29 + 7, 10 ** 30 - 1):
            for top in (0, 1, -1, 6, -35, 10 ** 29 + 9):
                for bottom in (1, -1, 2, -9, 10 ** 29 + 13):
                    self.assert_told(fraction(top * factor, bottom * factor), top, bottom)
                    self.assert_told(fraction(top * factor, -bottom * factor), top, -bottom)

    def test_beyond_sixty_figures(self):
        self.assert_told(fraction(BEYOND_SHOWING * 6, BEYOND_SHOWING * -4), -3, 2)
        self.assert_told(fraction(-BEYOND_SHOWING, BEYOND_SHOWING - 1), -BEYOND_SHOWING, BEYOND_SHOWING - 1)

    def test_of_an_int_of_another_class(self):
        self.assert_told(fraction(Colour.RED, Colour.RED), 1, 1)
        self.assert_told(fraction(Colour.RED), 3, 1)

    def test_what_was_told_made_again_is_the_same(self):
        for one in some_fractions(200, 2):
            self.assertEqual(fraction(one[0], one[1]), one)

    def test_asked_again_the_same_is_told(self):
        for unused in range(3):
            self.assertEqual(fraction(-SIXTY, 12), lowest(-SIXTY, 12))


class Refused(unittest.TestCase):
    def assert_refused(self, *numbers):
        with self.assertRaises(NoFraction) as caught:
            fraction(*numbers)
        self.assertIs(type(caught.exception), NoFraction)
        self.assertIsInstance(caught.exception, WatchError)
        self.assertIsInstance(caught.exception, ValueError)
        self.assertNotIsInstance(caught.exception, (NoPoint, NoAsk, NoNet, NoWait, NoAct, NoMove))

    def test_the_second_is_0(self):
        for top in (0, 1, -1, SIXTY, -SIXTY, BEYOND_SHOWING):
            self.assert_refused(top, 0)

    def test_no_whole_number_first(self):
        for thing in no_wholes():
            self.assert_refused(thing)
            for bottom in (1, -1, 2, 0, SIXTY):
                self.assert_refused(thing, bottom)

    def test_no_whole_number_second(self):
        for thing in no_wholes():
            for top in (0, 1, -1, 2, SIXTY):
                self.assert_refused(top, thing)

    def test_no_whole_number_at_either_place(self):
        for one in no_wholes():
            for other in no_wholes():
                self.assert_refused(one, other)

    def test_none_is_not_the_second_left_out(self):
        self.assert_refused(3, None)

    def test_a_fraction_is_no_whole_number(self):
        self.assert_refused((1, 2))
        self.assert_refused((1, 2), (1, 3))

    def test_what_is_refused_is_not_changed(self):
        things = [[1, [2]], {1: [2]}]
        before = copy.deepcopy(things)
        self.assert_refused(things[0], things[1])
        self.assert_refused(things[1], things[0])
        self.assertEqual(things, before)

    def test_asked_again_it_is_refused_again(self):
        for unused in range(3):
            self.assert_refused(True, 0)


class Reckoned(Told):
    def test_plain_ones(self):
        self.assertEqual(plus((1, 2), (1, 3)), (5, 6))
        self.assertEqual(plus((1, 2), (1, 2)), (1, 1))
        self.assertEqual(plus((1, 2), (-1, 2)), (0, 1))
        self.assertEqual(minus((1, 2), (1, 3)), (1, 6))
        self.assertEqual(minus((1, 3), (1, 2)), (-1, 6))
        self.assertEqual(minus((5, 7), (5, 7)), (0, 1))
        self.assertEqual(times((2, 3), (3, 4)), (1, 2))
        self.assertEqual(times((-2, 3), (-3, 2)), (1, 1))
        self.assertEqual(times((0, 1), (-3, 7)), (0, 1))

    def test_against_exact_values(self):
        ones, others = some_fractions(300, 3), some_fractions(300, 4)
        for one, other in zip(ones, others):
            total, rest = exactly(one) + exactly(other), exactly(one) - exactly(other)
            product = exactly(one) * exactly(other)
            self.assert_told(plus(one, other), total.numerator, total.denominator)
            self.assert_told(minus(one, other), rest.numerator, rest.denominator)
            self.assert_told(times(one, other), product.numerator, product.denominator)
            self.assertIs(less(one, other), exactly(one) < exactly(other))

    def test_a_sum_less_one_of_its_two_is_the_other(self):
        for one, other in zip(some_fractions(200, 5), some_fractions(200, 6)):
            self.assertEqual(minus(plus(one, other), other), one)
            self.assertEqual(minus(plus(one, other), one), other)

    def test_either_way_about_alike(self):
        for one, other in zip(some_fractions(200, 7), some_fractions(200, 8)):
            self.assertEqual(plus(one, other), plus(other, one))
            self.assertEqual(times(one, other), times(other, one))

    def test_nought_and_one(self):
        for one in some_fractions(100, 9):
            self.assertEqual(plus(one, (0, 1)), one)
            self.assertEqual(minus(one, (0, 1)), one)
            self.assertEqual(minus(one, one), (0, 1))
            self.assertEqual(times(one, (1, 1)), one)
            self.assertEqual(times(one, (0, 1)), (0, 1))

    def test_what_was_told_may_be_handed_in_again_however_great(self):
        total, product = (1, 1), (1, 1)
        for one in some_fractions(60, 10):
            total = plus(total, one)
            product = times(product, one) if one[0] != 0 else product
        self.assertIs(is_fraction(total), True)
        self.assertIs(is_fraction(product), True)
        self.assertGreater(product[1], 10 ** 300)
        self.assertEqual(minus(plus(total, product), product), total)
        self.assertIs(less(total, plus(total, (1, 10 ** 60))), True)
        self.assertEqual(fraction(product[0] * 15, product[1] * -15), minus((0, 1), product))
        self.assertEqual(times(product, lowest(product[1], product[0])), (1, 1))

    def test_numbers_too_great_to_be_shown(self):
        great = (BEYOND_SHOWING, 2)
        self.assertEqual(minus(plus(great, (1, 3)), (1, 3)), great)
        self.assertEqual(times(great, (2, BEYOND_SHOWING)), (1, 1))
        self.assertEqual(floor_of(great), BEYOND_SHOWING // 2)
        self.assertIs(less(great, (BEYOND_SHOWING + 1, 2)), True)


class Less(unittest.TestCase):
    def test_plain_ones(self):
        self.assertIs(less((1, 3), (1, 2)), True)
        self.assertIs(less((1, 2), (1, 3)), False)
        self.assertIs(less((-1, 2), (-1, 3)), True)
        self.assertIs(less((-1, 3), (-1, 2)), False)
        self.assertIs(less((-1, 2), (0, 1)), True)
        self.assertIs(less((0, 1), (1, SIXTY)), True)

    def test_none_is_less_than_itself(self):
        for one in some_fractions(50, 11):
            self.assertIs(less(one, one), False)

    def test_of_unlike_ones_just_one_is_less(self):
        for one, other in zip(some_fractions(100, 12), some_fractions(100, 13)):
            if one != other:
                self.assertIs(less(one, other), not less(other, one))

    def test_great_neighbours(self):
        below, above = (SIXTY - 2, SIXTY - 1), (SIXTY - 1, SIXTY)
        self.assertIs(less(below, above), True)
        self.assertIs(less(above, below), False)


class FloorOf(unittest.TestCase):
    def test_plain_ones(self):
        for one, floor in [((0, 1), 0), ((1, 2), 0), ((-1, 2), -1), ((1, SIXTY), 0), ((-1, SIXTY), -1), ((3, 2), 1),
                           ((-3, 2), -2), ((7, 1), 7), ((-7, 1), -7), ((SIXTY, 1), SIXTY), ((-SIXTY, 1), -SIXTY),
                           ((SIXTY, 2), SIXTY // 2), ((-SIXTY, 2), -(SIXTY // 2) - 1)]:
            self.assertEqual(floor_of(one), floor)
            self.assertIs(type(floor_of(one)), int)

    def test_the_greatest_whole_number_that_is_not_above(self):
        for one in some_fractions(200, 14):
            floor = floor_of(one)
            self.assertIs(is_whole(floor), True)
            self.assertLessEqual(floor, exactly(one))
            self.assertGreater(floor + 1, exactly(one))


class Interface(unittest.TestCase):
    def test_names_and_arguments(self):
        arguments = {
            "is_whole": "(thing)", "is_fraction": "(thing)", "fraction": "(top, bottom=1)", "plus": "(one, other)",
            "minus": "(one, other)", "times": "(one, other)", "less": "(one, other)", "floor_of": "(one)",
        }
        for name, expected in arguments.items():
            self.assertEqual(str(inspect.signature(getattr(own, name))), expected, name)


if __name__ == "__main__":
    unittest.main()
