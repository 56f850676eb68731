import copy
import inspect
import itertools
import random
import unittest
from fractions import Fraction

from making import SIXTY, cell_reckoned, next_reckoned, pairs_of

from watchyard import cells as own
from watchyard.asks import mosts, read_ask
from watchyard.cells import cell_of, corners, is_moment, next_cell, put_back, standard
from watchyard.fractions import is_fraction
from watchyard.reading import read_net
from watchyard.runs import ran

INCH = Fraction(1, SIXTY)


def all_values(count, steps, reach):
    return itertools.product([Fraction(step, steps) for step in range(steps * reach + 1)], repeat=count)


def some_values(chance, most):
    """Times at, just below, just above and anywhere about the greatest numbers."""
    told = []
    if chance.random() < 0.2:
        return tuple(max(0, number - chance.randint(1, 3)) + Fraction(chance.randint(1, 98), 99) for number in most)
    parts = [Fraction(chance.randint(1, 8), 9) for unused in range(2)] + [INCH, 1 - INCH, Fraction(0), Fraction(0)]
    for number in most:
        told.append(chance.choice([
            Fraction(number), number + INCH, abs(number - INCH), Fraction(0), Fraction(SIXTY),
            chance.randint(0, number) + chance.choice(parts), chance.randint(0, number) + chance.choice(parts)]))
    return tuple(told)


def some_mosts(chance):
    return [chance.choice([0, 0, 1, 2, 3, 60, chance.randint(0, 60)]) for unused in range(chance.randint(0, 4))]


class CellOf(unittest.TestCase):
    def assertCell(self, most, values, cell):
        self.assertEqual(cell_of(most, pairs_of(values)), cell, (most, values))
        self.assertEqual(cell_reckoned(most, [Fraction(value) for value in values]), cell)

    def test_no_watch(self):
        self.assertCell([], [], ())

    def test_one_watch(self):
        half = Fraction(1, 2)
        for most, value, place in (
                (3, 0, (0, 0)), (3, INCH, (0, 1)), (3, half, (0, 1)), (3, 1 - INCH, (0, 1)), (3, 1, (1, 0)),
                (3, 2 + half, (2, 1)), (3, 3 - INCH, (2, 1)), (3, 3, (3, 0)), (3, 3 + INCH, (4, 0)),
                (3, 3 + half, (4, 0)), (3, 4, (4, 0)), (3, 4 + half, (4, 0)), (3, SIXTY, (4, 0)),
                (0, 0, (0, 0)), (0, INCH, (1, 0)), (0, 1, (1, 0)), (0, 7 + half, (1, 0)),
                (60, 60, (60, 0)), (60, 60 + INCH, (61, 0)), (60, 60 - INCH, (59, 1))):
            self.assertCell([most], [value], (place,))

    def test_ranks_of_broken_parts(self):
        third, half = Fraction(1, 3), Fraction(1, 2)
        most = [5, 5, 5, 5]
        self.assertCell(most, [half, third, 3 + half, 2], ((0, 2), (0, 1), (3, 2), (2, 0)))
        self.assertCell(most, [1 + third, 2 + third, 3 + third, third], ((1, 1), (2, 1), (3, 1), (0, 1)))
        self.assertCell(most, [INCH, 1 - INCH, 4 + half, third], ((0, 1), (0, 4), (4, 3), (0, 2)))
        self.assertCell(most, [0, 1, 2, 5], ((0, 0), (1, 0), (2, 0), (5, 0)))
        # Parts that only a look at all figures tells apart.
        self.assertCell(most, [half, half + INCH, 1 + half - INCH, half + INCH], ((0, 2), (0, 3), (1, 1), (0, 3)))

    def test_watches_beyond_have_no_part_in_the_ranks(self):
        third, half = Fraction(1, 3), Fraction(1, 2)
        self.assertCell([2, 2], [2 + third, half], ((3, 0), (0, 1)))
        self.assertCell([2, 2, 0], [half, 5 + third, third], ((0, 1), (3, 0), (1, 0)))
        self.assertCell([0, 9, 9, 0], [third, half, 2 * third, 0], ((1, 0), (0, 1), (0, 2), (0, 0)))
        self.assertCell([1, 1, 1, 1], [9, 9 + half, 2, 1 + INCH], ((2, 0),) * 4)

    def test_all_small_ones(self):
        for count, steps in ((1, 6), (2, 4), (3, 3)):
            for most in itertools.product(range(3), repeat=count):
                for values in all_values(count, steps, 3):
                    self.assertEqual(cell_of(list(most), pairs_of(values)), cell_reckoned(most, values))

    def test_any(self):
        chance = random.Random(1)
        for unused in range(2000):
            most = some_mosts(chance)
            values = some_values(chance, most)
            self.assertEqual(cell_of(most, pairs_of(values)), cell_reckoned(most, values))

    def test_kinds(self):
        cell = cell_of([1, 0], pairs_of([Fraction(1, 2), 3]))
        self.assertEqual([type(each) for each in (cell,) + cell + cell[0] + cell[1]], [tuple] * 3 + [int] * 4)


class NextCell(unittest.TestCase):
    def test_none_where_all_are_beyond(self):
        self.assertIsNone(next_cell([], ()))
        self.assertIsNone(next_cell([0], ((1, 0),)))
        self.assertIsNone(next_cell([60], ((61, 0),)))
        self.assertIsNone(next_cell([0, 3, 60, 1], ((1, 0), (4, 0), (61, 0), (2, 0))))

    def test_by_hand(self):
        for most, cell, told in (
                # Some have rank 0: with their greatest number they come to be beyond, else they get rank 1.
                ([0], ((0, 0),), ((1, 0),)),
                ([3], ((0, 0),), ((0, 1),)),
                ([3], ((3, 0),), ((4, 0),)),
                ([3, 3], ((3, 0), (1, 1)), ((4, 0), (1, 1))),
                ([3, 3], ((2, 0), (1, 1)), ((2, 1), (1, 2))),
                ([3, 3, 3], ((3, 0), (2, 0), (1, 1)), ((4, 0), (2, 1), (1, 2))),
                ([3, 3, 3], ((3, 0), (1, 2), (2, 1)), ((4, 0), (1, 2), (2, 1))),
                ([3, 0, 3, 3], ((0, 0), (1, 0), (1, 1), (2, 2)), ((0, 1), (1, 0), (1, 2), (2, 3))),
                ([3, 0, 3, 3], ((3, 0), (1, 0), (1, 1), (2, 2)), ((4, 0), (1, 0), (1, 1), (2, 2))),
                ([3, 0, 3, 3], ((4, 0), (0, 0), (1, 1), (2, 0)), ((4, 0), (1, 0), (1, 2), (2, 1))),
                ([2, 2, 2, 2], ((0, 0), (1, 0), (2, 0), (3, 0)), ((0, 1), (1, 1), (3, 0), (3, 0))),
                # None has: those of the greatest rank get rank 0 and one whole more.
                ([3], ((0, 1),), ((1, 0),)),
                ([3], ((2, 1),), ((3, 0),)),
                ([3, 3], ((0, 1), (0, 2)), ((0, 1), (1, 0))),
                ([3, 3, 3], ((0, 2), (1, 2), (2, 1)), ((1, 0), (2, 0), (2, 1))),
                ([3, 0, 3], ((0, 1), (1, 0), (2, 1)), ((1, 0), (1, 0), (3, 0)))):
            self.assertEqual(next_cell(most, cell), told, (most, cell))

    def test_gone_on_to_the_end(self):
        cells = [((0, 0),)]
        while cells[-1] is not None:
            cells.append(next_cell([2], cells[-1]))
        self.assertEqual(cells, [((0, 0),), ((0, 1),), ((1, 0),), ((1, 1),), ((2, 0),), ((3, 0),), None])

    def test_against_what_comes_later(self):
        chance = random.Random(2)
        lengths = []
        for unused in range(400):
            most = [chance.choice([0, 1, 2, 3, 5]) for each in range(chance.randint(0, 4))]
            values = some_values(chance, most)
            cell = cell_of(most, pairs_of(values))
            length = 0
            while values is not None:
                self.assertEqual(cell, cell_reckoned(most, values))
                values = next_reckoned(most, values)
                cell = next_cell(most, cell)
                length = length + 1
            self.assertIsNone(cell)
            lengths.append(length)
        self.assertEqual(min(lengths), 1)
        self.assertGreater(max(lengths), 20)

    def test_all_small_ones(self):
        for count, steps in ((1, 4), (2, 4), (3, 4)):
            for most in itertools.product(range(3), repeat=count):
                for values in all_values(count, steps, 2 if count == 3 else 3):
                    later = next_reckoned(most, values)
                    told = next_cell(list(most), cell_reckoned(most, values))
                    self.assertEqual(told, later and cell_reckoned(most, later))


class Standard(unittest.TestCase):
    def assertStandard(self, most, cell):
        times = standard(most, cell)
        self.assertIs(type(times), tuple)
        self.assertTrue(all(is_fraction(time) and time[0] >= 0 for time in times))
        self.assertEqual(len(times), len(cell))
        self.assertEqual(cell_reckoned(most, [Fraction(*time) for time in times]), cell)
        self.assertEqual(cell_of(most, times), cell)

    def test_cells_by_hand(self):
        for most, cell in (
                ([], ()), ([0], ((0, 0),)), ([0], ((1, 0),)), ([3], ((3, 0),)), ([3], ((2, 1),)), ([60], ((61, 0),)),
                ([60, 0, 1, 2], ((59, 3), (0, 0), (0, 2), (1, 1))), ([5] * 4, ((4, 4), (4, 3), (4, 2), (4, 1))),
                ([5] * 4, ((1, 2), (4, 1), (6, 0), (0, 2))), ([0] * 4, ((1, 0), (0, 0), (1, 0), (1, 0)))):
            self.assertStandard(most, cell)

    def test_all_small_ones(self):
        for count, steps in ((1, 4), (2, 4), (3, 4)):
            for most in itertools.product(range(2), repeat=count):
                for values in all_values(count, steps, 2):
                    self.assertStandard(list(most), cell_reckoned(most, values))

    def test_any(self):
        chance = random.Random(3)
        for unused in range(1000):
            most = some_mosts(chance)
            self.assertStandard(most, cell_reckoned(most, some_values(chance, most)))


class PutBack(unittest.TestCase):
    def test_none_some_and_all(self):
        cell = ((3, 0), (1, 2), (0, 1), (2, 2))
        for numbers, told in (
                ([], cell), ([0], ((0, 0), (1, 2), (0, 1), (2, 2))), ([1], ((3, 0), (0, 0), (0, 1), (2, 2))),
                ([2], ((3, 0), (1, 1), (0, 0), (2, 1))), ([1, 3], ((3, 0), (0, 0), (0, 1), (0, 0))),
                ([1, 2], ((3, 0), (0, 0), (0, 0), (2, 1))), ([2, 3], ((3, 0), (1, 1), (0, 0), (0, 0))),
                ([1, 2, 3], ((3, 0), (0, 0), (0, 0), (0, 0))), ([0, 1, 2, 3], ((0, 0),) * 4)):
            for some in (numbers, numbers[::-1], tuple(numbers), numbers * 2):
                self.assertEqual(put_back(cell, some), told, some)
        self.assertEqual(put_back((), []), ())
        self.assertEqual(put_back(((61, 0),), [0]), ((0, 0),))
        self.assertEqual(put_back(((0, 0),), [0]), ((0, 0),))

    def test_as_the_times_are_put_back(self):
        chance = random.Random(4)
        for unused in range(2000):
            most = some_mosts(chance)
            values = some_values(chance, most)
            numbers = [number for number in range(len(most)) if chance.random() < 0.4]
            back = [Fraction(0) if number in numbers else value for number, value in enumerate(values)]
            self.assertEqual(put_back(cell_reckoned(most, values), numbers), cell_reckoned(most, back))


class IsMoment(unittest.TestCase):
    def test_by_hand(self):
        for most, cell, told in (
                ([], (), False), ([0], ((0, 0),), True), ([0], ((1, 0),), False), ([3], ((3, 0),), True),
                ([3], ((4, 0),), False), ([3], ((2, 1),), False), ([3], ((0, 0),), True),
                ([3, 3], ((4, 0), (2, 1)), False), ([3, 3], ((4, 0), (2, 0)), True), ([3, 3], ((2, 1), (3, 0)), True),
                ([3, 2], ((3, 0), (3, 0)), True), ([2, 3], ((3, 0), (3, 0)), True), ([2, 2], ((3, 0), (3, 0)), False),
                ([3, 3, 3, 3], ((0, 1), (1, 2), (2, 3), (2, 4)), False),
                ([3, 3, 3, 3], ((0, 1), (1, 2), (2, 3), (2, 0)), True)):
            self.assertIs(is_moment(most, cell), told, (most, cell))

    def test_no_time_goes_by_within_it(self):
        chance = random.Random(5)
        seen = [0, 0]
        for unused in range(1500):
            most = some_mosts(chance)
            values = some_values(chance, most)
            cell = cell_reckoned(most, values)
            later = cell_reckoned(most, [value + Fraction(1, 2 * SIXTY) for value in values])
            self.assertIs(is_moment(most, cell), later != cell)
            seen[is_moment(most, cell)] += 1
        self.assertGreater(min(seen), 200)


class Corners(unittest.TestCase):
    def test_by_hand(self):
        for cell, told in (
                ((), [()]), (((0, 0),), [(0,)]), (((61, 0),), [(61,)]), (((2, 1),), [(2,), (3,)]),
                (((2, 1), (5, 0)), [(2, 5), (3, 5)]), (((2, 1), (0, 1)), [(2, 0), (3, 1)]),
                (((2, 1), (0, 2)), [(2, 0), (2, 1), (3, 1)]), (((2, 2), (0, 1)), [(2, 0), (3, 0), (3, 1)]),
                (((1, 2), (4, 1), (6, 0), (0, 2)), [(1, 4, 6, 0), (2, 4, 6, 1), (2, 5, 6, 1)]),
                (((0, 3), (1, 1), (2, 4), (3, 2)),
                 [(0, 1, 2, 3), (0, 1, 3, 3), (1, 1, 3, 3), (1, 1, 3, 4), (1, 2, 3, 4)])):
            self.assertEqual(corners(cell), told, cell)
            self.assertIs(type(corners(cell)), list)

    def test_all_that_lies_between_them_is_of_the_cell(self):
        chance = random.Random(6)
        counts = {}
        for unused in range(1500):
            most = some_mosts(chance)
            cell = cell_reckoned(most, some_values(chance, most))
            told = corners(cell)
            counts[len(told)] = counts.get(len(told), 0) + 1
            self.assertEqual(len(told), len({rank for whole, rank in cell if rank > 0}) + 1)
            shares = [Fraction(chance.randint(1, 9)) for unused_either in told]
            values = [sum(share * corner[place] for share, corner in zip(shares, told)) / sum(shares)
                      for place in range(len(most))]
            self.assertEqual(cell_reckoned(most, values), cell)
        self.assertEqual(sorted(counts), [1, 2, 3, 4, 5])

    def test_they_rise_from_the_wholes_to_the_next_ones(self):
        chance = random.Random(7)
        for unused in range(500):
            most = some_mosts(chance)
            cell = cell_reckoned(most, some_values(chance, most))
            told = corners(cell)
            self.assertEqual(told[0], tuple(whole for whole, rank in cell))
            self.assertEqual(told[-1], tuple(whole + (rank > 0) for whole, rank in cell))
            for one, after in zip(told, told[1:]):
                self.assertTrue(all(left <= right for left, right in zip(one, after)))
                self.assertNotEqual(one, after)


class Asked(unittest.TestCase):
    def all_told(self, most, times, numbers):
        cell = cell_of(most, times)
        return [cell, next_cell(most, cell), standard(most, cell), put_back(cell, numbers), is_moment(most, cell),
                corners(cell)]

    def test_what_is_handed_in_is_not_changed_and_what_is_told_is_the_askers(self):
        most, times, numbers = [3, 1, 4, 1], ((1, 2), (5, 2), (1, 3), (1, 1)), [2, 3]
        kept = copy.deepcopy((most, times, numbers))
        wanted = copy.deepcopy(self.all_told(most, times, numbers))
        for unused in range(3):
            told = self.all_told(most, times, numbers)
            self.assertEqual(told, wanted)
            self.assertEqual((most, times, numbers), kept)
            told[-1].reverse()
            told[-1].clear()

    def test_by_turns(self):
        one = ([2, 2], ((1, 2), (2, 1)), [0])
        other = ([0, 3], ((1, 2), (2, 1)), [1])
        wanted = (self.all_told(*one), self.all_told(*other))
        for unused in range(3):
            self.assertEqual((self.all_told(*one), self.all_told(*other)), wanted)
        self.assertEqual(wanted[0][0], ((0, 1), (2, 0)))
        self.assertEqual(wanted[1][0], ((1, 0), (2, 0)))

    def test_what_was_told_may_be_handed_in_again(self):
        net = read_net("watch x\nwatch y\nmachine m\nroom r\ndoor r r when x < 3 do x = 0\n")
        most = mosts(net, [read_ask(net, "y <= 9")])
        run = [((1, SIXTY - number), (0,) if number == 150 else ()) for number in range(200)]
        cell = cell_of(most, ran(net, run)[-1][2])
        self.assertEqual(cell, ((0, 1), (0, 2)))
        self.assertEqual(cell_of(most, standard(most, cell)), cell)
        self.assertEqual(next_cell(most, next_cell(most, cell)), ((0, 2), (1, 1)))
        self.assertEqual(put_back(next_cell(most, cell), [1]), ((0, 1), (0, 0)))
        self.assertEqual(corners(put_back(cell, [1])), [(0, 0), (1, 0)])


class Interface(unittest.TestCase):
    def test_names_and_arguments(self):
        for name, arguments in {"cell_of": "(most, times)", "next_cell": "(most, cell)", "standard": "(most, cell)",
                                "put_back": "(cell, numbers)", "is_moment": "(most, cell)",
                                "corners": "(cell)"}.items():
            self.assertEqual(str(inspect.signature(getattr(own, name))), arguments, name)


if __name__ == "__main__":
    unittest.main()
