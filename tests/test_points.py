import copy
import fractions
import inspect
import itertools
import random
import unittest

import making
from making import SIXTY
from watchyard import points as own
from watchyard.closing import closed
from watchyard.errors import NoAct, NoAsk, NoFraction, NoMove, NoNet, NoPoint, NoWait, WatchError
from watchyard.fractions import fraction, is_fraction
from watchyard.points import far_point, mixed, point_of
from watchyard.tables import lies_in, narrowed, open_table

BEYOND_SHOWING = 10 ** 6000 + 1
SMALL_AND_GREAT = [(1, 1), (1, 2), (7, 3), (1, SIXTY), (SIXTY, 1), (SIXTY - 1, SIXTY), (SIXTY, SIXTY - 1), (1, 1000)]
GREAT_WITHOUT_RING = list(making.great_tables_without_ring(random.Random(1)))


class Told(unittest.TestCase):
    def assert_point(self, point, table):
        self.assertIs(type(point), list)
        self.assertEqual(len(point), len(table) - 1)
        for value in point:
            self.assertIs(type(value), tuple)
            self.assertIs(is_fraction(value), True, value)
        self.assertIs(lies_in(table, point), True)

    def assert_far(self, table, i, j, e):
        """The point lies in the table, and as far out as the closed table's bound asks."""
        point = far_point(table, i, j, e)
        self.assert_point(point, table)
        values = making.values_of(point)
        rest, near = values[i] - values[j], fractions.Fraction(e[0], e[1])
        bound = closed(table)[1][i][j]
        if bound is None:
            self.assertGreater(rest, 1 / near)
        elif bound[1]:
            self.assertLess(bound[0] - near, rest)
            self.assertLess(rest, bound[0])
        else:
            self.assertEqual(rest, bound[0])
        return point

    def assert_refused(self, asked, *things):
        with self.assertRaises(NoPoint) as caught:
            asked(*things)
        self.assertIs(type(caught.exception), NoPoint)
        self.assertIsInstance(caught.exception, WatchError)
        self.assertIsInstance(caught.exception, ValueError)
        self.assertNotIsInstance(caught.exception, (NoFraction, NoAsk, NoNet, NoWait, NoAct, NoMove))


class PointOf(Told):
    def test_of_no_things(self):
        for bound in [None, (0, False), (3, True)]:
            self.assertEqual(point_of([[bound]]), [])

    def test_the_only_one(self):
        table = [[(0, False), (-2, False), (7, False)], [(2, False), None, None], [(-7, False), None, (1, True)]]
        self.assertEqual(point_of(table), [(2, 1), (-7, 1)])
        tied = narrowed(narrowed(open_table(1), 1, 0, (SIXTY, False)), 0, 1, (-SIXTY, False))
        self.assertEqual(point_of(tied), [(SIXTY, 1)])

    def test_open_ones(self):
        for k in (1, 2, 40):
            self.assert_point(point_of(open_table(k)), open_table(k))

    def test_strict_on_both_sides(self):
        for number in (0, -5, SIXTY, -SIXTY):
            table = narrowed(narrowed(open_table(1), 1, 0, (number + 1, True)), 0, 1, (-number, True))
            self.assert_point(point_of(table), table)

    def test_bounded_on_one_side(self):
        for bound in [(3, False), (3, True), (-3, False), (-3, True), (SIXTY, True), (-SIXTY, True)]:
            for i, j in itertools.permutations(range(3), 2):
                table = narrowed(open_table(2), i, j, bound)
                self.assert_point(point_of(table), table)

    def test_many_strictly_above_one_another(self):
        table = narrowed(open_table(40), 40, 0, (1, True))
        for thing in range(40):
            table[thing][thing + 1] = (0, True)
        self.assert_point(point_of(table), table)

    def test_of_many_tables(self):
        for table in making.tables_without_ring(random.Random(2), 800):
            self.assert_point(point_of(table), table)

    def test_point_or_ring(self):
        chance = random.Random(3)
        seen = {"ring": 0, "table": 0}
        for unused in range(800):
            table = making.some_table(chance, chance.randint(0, 4), -3, 6, chance.choice([0.3, 0.6, 0.8]))
            answer = "ring" if making.has_ring(table) else "table"
            if answer == "ring":
                self.assert_refused(point_of, table)
            else:
                self.assert_point(point_of(table), table)
            seen[answer] += 1
        self.assertGreater(min(seen.values()), 150)

    def test_great_tables(self):
        for table in GREAT_WITHOUT_RING:
            self.assert_point(point_of(table), table)

    def test_numbers_too_great_to_be_shown(self):
        table = narrowed(narrowed(open_table(1), 1, 0, (BEYOND_SHOWING, True)), 0, 1, (1 - BEYOND_SHOWING, True))
        self.assert_point(point_of(table), table)

    def test_what_is_handed_in_stays(self):
        for table in making.tables_without_ring(random.Random(4), 50):
            before = copy.deepcopy(table)
            point = point_of(table)
            again = list(point)
            self.assertEqual(table, before)
            point.append("more")
            self.assertEqual(table, before)
            self.assertEqual(point_of(table), again)


class FarPoint(Told):
    def test_not_strict(self):
        for number in (0, 5, -5, SIXTY, -SIXTY):
            table = narrowed(open_table(2), 1, 2, (number, False))
            for e in SMALL_AND_GREAT:
                self.assert_far(table, 1, 2, e)

    def test_strict(self):
        for number in (0, 5, -5, SIXTY, -SIXTY):
            table = narrowed(open_table(2), 1, 2, (number, True))
            for e in SMALL_AND_GREAT:
                self.assert_far(table, 1, 2, e)

    def test_strict_with_a_lower_bound_nearer_than_e(self):
        for strict in (False, True):
            table = narrowed(narrowed(open_table(1), 1, 0, (5, True)), 0, 1, (-4, strict))
            for e in SMALL_AND_GREAT + [(2, 1), (999, 1)]:
                self.assert_far(table, 1, 0, e)
                self.assert_far(table, 0, 1, e)

    def test_none(self):
        for e in SMALL_AND_GREAT:
            for i, j in itertools.permutations(range(3), 2):
                self.assert_far(open_table(2), i, j, e)

    def test_none_with_a_lower_bound_beyond_1_by_e(self):
        for strict in (False, True):
            table = narrowed(open_table(2), 2, 1, (-1000, strict))
            for e in SMALL_AND_GREAT:
                self.assert_far(table, 1, 2, e)
                self.assert_far(table, 2, 1, e)

    def test_a_bound_that_follows_from_others(self):
        table = narrowed(narrowed(open_table(2), 1, 2, (3, True)), 2, 0, (4, False))
        self.assert_far(table, 1, 0, (1, 1000))
        self.assertEqual(closed(table)[1][1][0], (7, True))

    def test_one_and_the_same_thing(self):
        for k in (0, 1, 3):
            for thing in range(k + 1):
                for e in SMALL_AND_GREAT:
                    self.assert_far(open_table(k), thing, thing, e)
        for table in making.tables_without_ring(random.Random(5), 50):
            for thing in range(len(table)):
                self.assert_far(table, thing, thing, (1, 2))

    def test_all_pairs_of_many_tables(self):
        chance = random.Random(6)
        kinds = {"none": 0, "strict": 0, "not": 0}
        for table in making.tables_without_ring(chance, 200, 4):
            told = closed(table)[1]
            for i, j in itertools.product(range(len(table)), repeat=2):
                self.assert_far(table, i, j, chance.choice(SMALL_AND_GREAT))
                bound = told[i][j]
                kinds["none" if bound is None else "strict" if bound[1] else "not"] += 1
        self.assertGreater(min(kinds.values()), 200)

    def test_great_tables(self):
        chance = random.Random(7)
        for table in GREAT_WITHOUT_RING:
            last = len(table) - 1
            pairs = [(0, 0), (0, last), (last, 0), (last, last), (1, 2), tuple(chance.sample(range(last + 1), 2))]
            for i, j in pairs:
                self.assert_far(table, i, j, chance.choice(SMALL_AND_GREAT))

    def test_of_no_things(self):
        self.assertEqual(far_point([[None]], 0, 0, (1, 2)), [])
        self.assertEqual(far_point([[(4, True)]], 0, 0, (SIXTY, 1)), [])

    def test_where_there_is_a_ring(self):
        chance = random.Random(8)
        tables = [[[(0, True)]], [[(-1, False)]]]
        for k in (1, 3, 40):
            for total in [(0, True), (-1, False)]:
                things = chance.sample(range(k + 1), chance.randint(1, k + 1))
                tables.append(making.planted(chance, open_table(k), things, total))
        for table in tables:
            last = len(table) - 1
            for i, j in [(0, 0), (0, last), (last, 0), (last, last)]:
                for e in [(1, 1), (1, SIXTY), (SIXTY, 1)]:
                    self.assert_refused(far_point, table, i, j, e)
            self.assert_refused(point_of, table)

    def test_what_is_handed_in_stays(self):
        for table in making.tables_without_ring(random.Random(9), 50):
            before = copy.deepcopy(table)
            point = far_point(table, 0, len(table) - 1, (1, 2))
            again = list(point)
            self.assertEqual(table, before)
            point.append("more")
            self.assertEqual(far_point(table, 0, len(table) - 1, (1, 2)), again)
        ringed = narrowed(open_table(1), 1, 1, (0, True))
        before = copy.deepcopy(ringed)
        self.assert_refused(far_point, ringed, 1, 0, (1, 2))
        self.assertEqual(ringed, before)


class Mixed(Told):
    def test_plain_ones(self):
        one, other = [(0, 1), (1, 2), (-3, 1)], [(1, 1), (1, 3), (5, 2)]
        self.assertEqual(mixed(one, other, (0, 1)), one)
        self.assertEqual(mixed(one, other, (1, 1)), other)
        self.assertEqual(mixed(one, other, (1, 2)), [(1, 2), (5, 12), (-1, 4)])
        self.assertEqual(mixed(one, other, (1, 3)), [(1, 3), (4, 9), (-7, 6)])

    def test_of_no_things(self):
        for e in [(0, 1), (1, 2), (1, 1)]:
            self.assertEqual(mixed([], [], e), [])

    def test_of_one_point_twice(self):
        point = [(SIXTY, 2), (-1, 3)]
        for e in [(0, 1), (1, 3), (1, SIXTY), (1, 1)]:
            self.assertEqual(mixed(point, point, e), point)

    def test_against_exact_values(self):
        chance = random.Random(10)
        for k in (1, 2, 5, 40):
            for e in [(0, 1), (1, 1), (1, 2), (2, 3), (1, SIXTY), (SIXTY - 1, SIXTY)]:
                one = making.some_point(chance, k, SIXTY, (1, 2, SIXTY - 2))
                other = making.some_point(chance, k, SIXTY, (1, 3, SIXTY - 4))
                near = fractions.Fraction(e[0], e[1])
                expected = []
                for first, second in zip(making.values_of(one)[1:], making.values_of(other)[1:]):
                    value = (1 - near) * first + near * second
                    expected.append((value.numerator, value.denominator))
                self.assertEqual(mixed(one, other, e), expected)
                self.assertTrue(all(is_fraction(value) for value in mixed(one, other, e)))

    def test_lies_in_a_table_in_which_both_lie(self):
        chance = random.Random(11)
        for table in making.tables_without_ring(chance, 100, 4):
            last = len(table) - 1
            one, other = far_point(table, 0, last, (1, 9)), far_point(table, last, 0, (1, 9))
            for e in [(0, 1), (1, 5), (1, 2), (1, 1)]:
                self.assert_point(mixed(one, other, e), table)

    def test_what_is_handed_in_stays(self):
        one, other = [(0, 1), (1, 2)], [(1, 1), (1, 3)]
        for e in [(0, 1), (1, 2), (1, 1)]:
            told = mixed(one, other, e)
            told[0] = "changed"
            told.append("more")
            self.assertEqual((one, other), ([(0, 1), (1, 2)], [(1, 1), (1, 3)]))
        self.assertEqual(mixed(one, other, (1, 2)), mixed(one, other, (1, 2)))

    def test_what_was_told_may_be_handed_in_again_however_great(self):
        one, other = [(0, 1)], [(1, 1)]
        for unused in range(30):
            one, other = other, mixed(one, other, fraction(SIXTY - 1, SIXTY))
        self.assertGreater(other[0][1], SIXTY ** 20)
        self.assertIs(is_fraction(other[0]), True)
        table = narrowed(narrowed(open_table(1), 1, 0, (1, False)), 0, 1, (0, True))
        self.assertIs(lies_in(table, other), True)


class Interface(unittest.TestCase):
    def test_names_and_arguments(self):
        arguments = {"point_of": "(table)", "far_point": "(table, i, j, e)", "mixed": "(one, other, e)"}
        for name, expected in arguments.items():
            self.assertEqual(str(inspect.signature(getattr(own, name))), expected, name)


if __name__ == "__main__":
    unittest.main()
