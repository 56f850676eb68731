import copy
import inspect
import itertools
import random
import unittest

import making
from making import SIXTY
from watchyard import closing as own
from watchyard.closing import closed, together, within
from watchyard.points import far_point
from watchyard.tables import lies_in, narrowed, open_table

BEYOND_SHOWING = 10 ** 6000 + 1
GREAT_WITHOUT_RING = list(making.great_tables_without_ring(random.Random(1)))


def grid(k):
    """Points with steps that fall between the whole numbers, too."""
    steps = [(-2, 1), (-3, 2), (-1, 1), (-1, 2), (0, 1), (1, 2), (1, 1), (3, 2), (2, 1), (3, 1)]
    return [list(point) for point in itertools.product(steps, repeat=k)]


class Told(unittest.TestCase):
    def assert_ring(self, answer, table):
        self.assertIs(type(answer), tuple)
        self.assertEqual(len(answer), 2)
        self.assertEqual(answer[0], "ring")
        things = answer[1]
        self.assertIs(type(things), list)
        self.assertGreaterEqual(len(things), 1)
        for thing in things:
            self.assertIs(type(thing), int)
            self.assertIn(thing, range(len(table)))
        self.assertEqual(len(set(things)), len(things), things)
        self.assertFalse(making.kept_by_0(making.round_of(table, things)), things)

    def assert_closed(self, answer, table):
        """All that can be seen of any table: it is a closed one, and no less tight than the first."""
        self.assertIs(type(answer), tuple)
        self.assertEqual(len(answer), 2)
        self.assertEqual(answer[0], "table")
        told = answer[1]
        self.assertEqual([type(row) for row in [told] + told], [list] * (len(table) + 1))
        self.assertEqual([len(row) for row in told], [len(table)] * len(table))
        orders = [[making.order_of(bound) for bound in row] for row in told]
        for i, j in itertools.product(range(len(table)), repeat=2):
            if told[i][j] is not None:
                self.assertEqual([type(thing) for thing in told[i][j]], [int, bool])
            self.assertLessEqual(orders[i][j], making.order_of(table[i][j]))
        for thing in range(len(table)):
            self.assertEqual(told[thing][thing], (0, False))
        for m, i in itertools.product(range(len(table)), repeat=2):
            if told[i][m] is not None:
                for j in range(len(table)):
                    if told[m][j] is not None:
                        total = making.total_of([told[i][m], told[m][j]])
                        self.assertLessEqual(orders[i][j], making.order_of(total), (i, m, j))


class Rings(Told):
    def test_of_one_thing(self):
        for bound in [(0, True), (-1, False), (-1, True), (-SIXTY, False), (-BEYOND_SHOWING, True)]:
            self.assertEqual(closed([[bound]]), ("ring", [0]))
            for k in (1, 2, 5):
                for thing in range(k + 1):
                    table = narrowed(open_table(k), thing, thing, bound)
                    self.assertEqual(closed(table), ("ring", [thing]))

    def test_of_one_thing_among_other_bounds(self):
        chance = random.Random(2)
        for table in making.tables_without_ring(chance, 200):
            thing = chance.randrange(len(table))
            table[thing][thing] = chance.choice([(0, True), (-1, False), (-SIXTY, True)])
            self.assert_ring(closed(table), table)

    def test_of_two_things(self):
        for bounds in [((-1, False), (0, False)), ((0, True), (0, False)), ((0, False), (0, True)),
                       ((3, True), (-3, False)), ((3, False), (-4, False)), ((SIXTY, True), (-SIXTY, True)),
                       ((SIXTY - 1, False), (-SIXTY, False)), ((BEYOND_SHOWING, False), (-BEYOND_SHOWING, True))]:
            for k in (1, 2, 4):
                for i, j in itertools.permutations(range(k + 1), 2):
                    table = narrowed(narrowed(open_table(k), i, j, bounds[0]), j, i, bounds[1])
                    answer = closed(table)
                    self.assert_ring(answer, table)
                    self.assertEqual(sorted(answer[1]), sorted([i, j]))

    def test_just_no_ring_of_two_things(self):
        for bounds in [((0, False), (0, False)), ((1, True), (0, True)), ((3, True), (-2, True)),
                       ((3, False), (-3, False)), ((SIXTY, False), (-SIXTY, False)), ((SIXTY, True), (1 - SIXTY, True)),
                       ((-5, True), None)]:
            for i, j in itertools.permutations(range(3), 2):
                table = narrowed(narrowed(open_table(2), i, j, bounds[0]), j, i, bounds[1])
                self.assert_closed(closed(table), table)

    def test_the_only_one_of_more_things(self):
        chance = random.Random(3)
        for unused in range(200):
            k = chance.randint(2, 8)
            things = chance.sample(range(k + 1), chance.randint(3, k + 1))
            total = chance.choice([(0, True), (-1, False), (-1, True), (-SIXTY, True)])
            table = making.planted(chance, open_table(k), things, total)
            answer = closed(table)
            self.assert_ring(answer, table)
            start = things.index(answer[1][0])
            self.assertEqual(answer[1], things[start:] + things[:start])
            just_none = making.planted(chance, open_table(k), things, chance.choice([(0, False), (1, True)]))
            self.assert_closed(closed(just_none), just_none)

    def test_told_just_where_there_is_one(self):
        chance = random.Random(4)
        seen = {"ring": 0, "table": 0}
        for unused in range(1500):
            table = making.some_table(chance, chance.randint(0, 4), -3, 6, chance.choice([0.3, 0.6, 0.8]))
            answer = closed(table)
            self.assertEqual(answer[0], "ring" if making.has_ring(table) else "table", table)
            if answer[0] == "ring":
                self.assert_ring(answer, table)
            seen[answer[0]] += 1
        self.assertGreater(min(seen.values()), 300)

    def test_where_rings_share_things(self):
        chance = random.Random(5)
        for unused in range(600):
            table = making.some_table(chance, chance.randint(5, 12), -4, 3, chance.choice([0.5, 0.8]))
            answer = closed(table)
            if answer[0] == "ring":
                self.assert_ring(answer, table)
            else:
                self.assert_closed(answer, table)

    def test_where_the_strict_ones_alone_make_it(self):
        chance = random.Random(6)
        for unused in range(600):
            k = chance.randint(2, 9)
            heights = [chance.randint(-5, 5) for unused in range(k + 1)]
            table = open_table(k)
            for i, j in itertools.product(range(k + 1), repeat=2):
                if chance.random() < 0.5:
                    table[i][j] = (heights[i] - heights[j], chance.random() < 0.2)
            answer = closed(table)
            if answer[0] == "ring":
                self.assert_ring(answer, table)
            else:
                self.assert_closed(answer, table)

    def test_of_great_tables(self):
        chance = random.Random(7)
        for k in (12, 39, 40):
            for length in (1, 2, 3, k, k + 1):
                for total in [(0, True), (-1, False), (-SIXTY, True)]:
                    things = chance.sample(range(k + 1), length)
                    table = making.planted(chance, open_table(k), things, total)
                    answer = closed(table)
                    self.assert_ring(answer, table)
                    self.assertEqual(sorted(answer[1]), sorted(things))

    def test_of_great_tables_full_of_bounds(self):
        chance = random.Random(8)
        for low, high in [(-SIXTY, SIXTY), (-1, 50), (0, 1)]:
            table = making.some_table(chance, 40, low, high, 0.0)
            self.assert_ring(closed(table), table)
        for table in GREAT_WITHOUT_RING:
            things = chance.sample(range(len(table)), 9)
            with_ring = making.planted(chance, table, things, (-1, False))
            self.assert_ring(closed(with_ring), with_ring)


class Closed(Told):
    def test_of_no_things(self):
        for bound in [None, (0, False), (1, True), (SIXTY, False)]:
            self.assertEqual(closed([[bound]]), ("table", [[(0, False)]]))

    def test_the_open_one(self):
        for k in (1, 2, 40):
            expected = [[(0, False) if i == j else None for j in range(k + 1)] for i in range(k + 1)]
            self.assertEqual(closed(open_table(k)), ("table", expected))

    def test_plain_ones(self):
        table = [[None, (-2, False), None], [(5, True), (4, True), None], [None, (1, True), (7, False)]]
        self.assertEqual(closed(table), ("table", [
            [(0, False), (-2, False), None], [(5, True), (0, False), None], [(6, True), (1, True), (0, False)]]))

    def test_strict_sums_and_those_that_are_not(self):
        for first, second in itertools.product((False, True), repeat=2):
            table = narrowed(narrowed(open_table(2), 1, 2, (3, first)), 2, 0, (-1, second))
            self.assertEqual(closed(table)[1][1][0], (2, first or second))
            self.assertEqual(closed(narrowed(table, 1, 0, (2, False)))[1][1][0], (2, first or second))
            self.assertEqual(closed(narrowed(table, 1, 0, (2, True)))[1][1][0], (2, True))

    def test_nones_are_kept_where_nothing_bounds(self):
        table = narrowed(narrowed(open_table(4), 1, 2, (3, False)), 2, 4, (SIXTY, False))
        told = closed(table)[1]
        bounded = {(i, j): told[i][j] for i in range(5) for j in range(5) if i != j and told[i][j] is not None}
        self.assertEqual(bounded, {(1, 2): (3, False), (2, 4): (SIXTY, False), (1, 4): (SIXTY + 3, False)})

    def test_against_trying_all_ways(self):
        chance = random.Random(9)
        for table in making.tables_without_ring(chance, 600, 4):
            answer = closed(table)
            self.assert_closed(answer, table)
            self.assertEqual(answer[1], making.closed_by_trying(table))

    def test_just_the_same_points(self):
        chance = random.Random(10)
        seen = {True: 0, False: 0}
        for unused in range(60):
            k = chance.randint(1, 3)
            table = making.table_about(chance, making.some_point(chance, k, 2, (1, 2)), chance.choice([0, 1, 3]))
            told = closed(table)[1]
            for point in grid(k):
                lies = lies_in(table, point)
                self.assertIs(lies_in(told, point), lies, (table, point))
                seen[lies] += 1
        self.assertGreater(min(seen.values()), 100)

    def test_a_table_with_a_ring_has_no_point(self):
        chance = random.Random(11)
        for unused in range(200):
            k = chance.randint(0, 2)
            table = making.some_table(chance, k, -3, 3, 0.3)
            if closed(table)[0] == "ring":
                self.assertFalse(any(lies_in(table, point) for point in grid(k)), table)

    def test_closed_again_it_is_the_same(self):
        chance = random.Random(12)
        for table in list(making.tables_without_ring(chance, 200)) + GREAT_WITHOUT_RING:
            told = closed(table)
            self.assertEqual(closed(told[1]), told)

    def test_equal_sets_of_points_equal_closed_tables(self):
        chance = random.Random(13)
        for table in making.tables_without_ring(chance, 200):
            told = closed(table)[1]
            other = copy.deepcopy(table)
            for i, j in itertools.product(range(len(table)), repeat=2):
                # What follows from the other bounds puts no point out, nor does a bound from a thing to itself.
                if i == j:
                    other[i][j] = chance.choice([None, (0, False), (3, True)])
                elif chance.random() < 0.5:
                    other[i][j] = told[i][j]
            self.assertEqual(closed(other), ("table", told))

    def test_unlike_sets_of_points_unlike_closed_tables(self):
        chance = random.Random(14)
        for table in making.tables_without_ring(chance, 200):
            told = closed(table)[1]
            for i, j in itertools.permutations(range(len(table)), 2):
                bound = told[i][j]
                narrower = closed(narrowed(told, i, j, (0 if bound is None else bound[0] - 1, False)))
                if narrower[0] == "table":
                    self.assertNotEqual(narrower[1], told)
                if bound is not None:
                    wider = copy.deepcopy(told)
                    wider[i][j] = (bound[0], False) if bound[1] else (bound[0] + 1, True)
                    # A point at the very edge shows whether the wider one has points of its own.
                    lies = lies_in(told, far_point(wider, i, j, (1, SIXTY)))
                    self.assertIs(closed(wider)[1] == told, lies)

    def test_great_tables(self):
        for table in GREAT_WITHOUT_RING:
            answer = closed(table)
            self.assert_closed(answer, table)
            # Nothing is tighter than the points ask for: one of them comes as near to the bound as wanted.
            for i, j in [(0, 1), (1, 0), (3, 20), (22, 5), (7, 7), (len(table) - 1, 0)]:
                point = far_point(table, i, j, (1, 5))
                self.assertIs(lies_in(table, point), True)
                values = making.values_of(point)
                bound = answer[1][i][j]
                if bound is not None and not bound[1]:
                    self.assertEqual(values[i] - values[j], bound[0])
                if bound is not None and bound[1]:
                    self.assertTrue(bound[0] * 5 - 1 < (values[i] - values[j]) * 5 < bound[0] * 5)

    def test_a_chain_of_forty_things(self):
        table = open_table(40)
        for thing in range(40):
            table[thing + 1][thing] = (SIXTY - thing, thing == 20)
        told = closed(table)[1]
        for i, j in itertools.product(range(41), repeat=2):
            steps = range(j, i)
            expected = (sum(SIXTY - step for step in steps), 20 in steps) if i >= j else None
            self.assertEqual(told[i][j], expected)

    def test_what_was_told_may_be_handed_in_again_however_great(self):
        table = narrowed(narrowed(open_table(2), 1, 2, (SIXTY, True)), 2, 0, (SIXTY, False))
        for unused in range(12):
            told = closed(table)[1]
            table = narrowed(narrowed(open_table(2), 1, 2, told[1][0]), 2, 0, told[1][0])
        self.assertEqual(closed(table)[1][1][0], (SIXTY * 2 ** 13, True))
        self.assertEqual(closed(narrowed(table, 0, 1, (-SIXTY * 2 ** 13, False)))[0], "ring")
        beyond = narrowed(narrowed(open_table(1), 1, 0, (BEYOND_SHOWING, False)), 0, 1, (-BEYOND_SHOWING, False))
        self.assertEqual(closed(beyond)[0], "table")

    def test_what_is_handed_in_stays(self):
        chance = random.Random(15)
        for unused in range(200):
            table = making.some_table(chance, chance.randint(0, 4), -2, 6, 0.6)
            before = copy.deepcopy(table)
            answer = closed(table)
            self.assertEqual(table, before)
            again = copy.deepcopy(answer)
            for row in answer[1] if answer[0] == "table" else []:
                row[0] = "changed"
                row.append("more")
            answer[1].append("more")
            self.assertEqual(table, before)
            self.assertEqual(closed(table), again)

    def test_no_list_is_shared(self):
        table = closed(open_table(3))[1]
        told = closed(table)[1]
        self.assertEqual(told, table)
        self.assertEqual(len({id(row) for row in table + told} | {id(table), id(told)}), 10)


class Together(Told):
    def assert_together(self, one, other):
        both = [[min(pair, key=making.order_of) for pair in zip(row, row_of_other)]
                for row, row_of_other in zip(one, other)]
        answer = together(one, other)
        if closed(both)[0] == "ring":
            self.assert_ring(answer, both)
        else:
            self.assert_closed(answer, both)
            self.assertEqual(answer, closed(both))
        return answer

    def test_plain_ones(self):
        one = narrowed(open_table(1), 1, 0, (5, True))
        other = narrowed(narrowed(open_table(1), 0, 1, (-2, False)), 1, 0, (5, False))
        expected = ("table", [[(0, False), (-2, False)], [(5, True), (0, False)]])
        self.assertEqual(together(one, other), expected)
        self.assertEqual(together(other, one), expected)

    def test_of_no_things(self):
        self.assertEqual(together([[None]], [[None]]), ("table", [[(0, False)]]))
        self.assertEqual(together([[None]], [[(0, True)]]), ("ring", [0]))
        self.assertEqual(together([[(-1, False)]], [[None]]), ("ring", [0]))

    def test_with_itself_and_with_the_open_one(self):
        for table in making.tables_without_ring(random.Random(16), 100):
            self.assertEqual(together(table, table), closed(table))
            self.assertEqual(together(table, open_table(len(table) - 1)), closed(table))
            self.assertEqual(together(open_table(len(table) - 1), table), closed(table))

    def test_a_ring_that_neither_has(self):
        one = narrowed(open_table(3), 1, 2, (3, False))
        other = narrowed(narrowed(open_table(3), 2, 3, (-5, False)), 3, 1, (2, True))
        for first, second in [(one, other), (other, one)]:
            answer = self.assert_together(first, second)
            self.assertEqual(answer[0], "ring")
            self.assertEqual(sorted(answer[1]), [1, 2, 3])

    def test_a_ring_that_one_has(self):
        one = narrowed(narrowed(open_table(2), 1, 2, (3, False)), 2, 1, (-3, True))
        self.assertEqual(self.assert_together(one, open_table(2))[0], "ring")
        self.assertEqual(self.assert_together(open_table(2), one)[0], "ring")
        self.assertEqual(self.assert_together(one, one)[0], "ring")

    def test_either_way_round(self):
        chance = random.Random(17)
        seen = {"ring": 0, "table": 0}
        for unused in range(500):
            k = chance.randint(0, 4)
            one, other = [making.some_table(chance, k, -3, 8, 0.6) for unused in range(2)]
            answer, turned = self.assert_together(one, other), self.assert_together(other, one)
            self.assertEqual(answer[0], turned[0])
            if answer[0] == "table":
                self.assertEqual(answer, turned)
            seen[answer[0]] += 1
        self.assertGreater(min(seen.values()), 50)

    def test_the_points_of_both(self):
        chance = random.Random(18)
        for unused in range(30):
            k = chance.randint(1, 2)
            one, other = [making.some_table(chance, k, -1, 3, 0.5) for unused in range(2)]
            answer = together(one, other)
            for point in grid(k):
                both = lies_in(one, point) and lies_in(other, point)
                self.assertIs(answer[0] == "table" and lies_in(answer[1], point), both)

    def test_great_tables(self):
        chance = random.Random(19)
        point = making.some_point(chance, 40, SIXTY // 4, (1, 9))
        one, other = [making.table_about(chance, point, SIXTY // 4, 0.7) for unused in range(2)]
        self.assertIs(lies_in(self.assert_together(one, other)[1], point), True)
        with_ring = making.planted(chance, other, chance.sample(range(41), 5), (0, True))
        self.assertEqual(self.assert_together(one, with_ring)[0], "ring")

    def test_what_is_handed_in_stays(self):
        for one in making.tables_without_ring(random.Random(20), 50):
            other = narrowed(one, 0, len(one) - 1, (9, True))
            before = copy.deepcopy((one, other))
            answer = together(one, other)
            again = copy.deepcopy(answer)
            self.assertEqual((one, other), before)
            for row in answer[1]:
                row.append("more")
            self.assertEqual((one, other), before)
            self.assertEqual(together(one, other), again)


class Within(Told):
    def closed_ones(self, seed, k, count):
        chance = random.Random(seed)
        tables = [making.some_table(chance, k, -1, 3, chance.choice([0.3, 0.6, 0.9])) for unused in range(count)]
        return [answer[1] for answer in map(closed, tables) if answer[0] == "table"]

    def test_plain_ones(self):
        wide = closed(narrowed(open_table(1), 1, 0, (5, False)))[1]
        thin = closed(narrowed(open_table(1), 1, 0, (5, True)))[1]
        self.assertIs(within(thin, wide), True)
        self.assertIs(within(wide, thin), False)

    def test_of_no_things(self):
        self.assertIs(within([[(0, False)]], [[(0, False)]]), True)

    def test_of_equal_tables(self):
        for table in making.tables_without_ring(random.Random(21), 100):
            told = closed(table)[1]
            self.assertIs(within(told, told), True)
            self.assertIs(within(told, copy.deepcopy(told)), True)

    def test_in_the_open_one(self):
        for table in self.closed_ones(22, 2, 60):
            widest = closed(open_table(2))[1]
            self.assertIs(within(table, widest), True)
            self.assertIs(within(widest, table), table == widest)

    def test_one_wider_bound_at_every_place_is_enough(self):
        table = closed(making.table_about(random.Random(23), [(1, 2), (5, 1), (-3, 4)], 3, 0.0))[1]
        for i, j in itertools.permutations(range(4), 2):
            thin = closed(narrowed(table, i, j, (table[i][j][0], True)))
            if thin[0] == "table" and thin[1] != table:
                self.assertIs(within(thin[1], table), True)
                self.assertIs(within(table, thin[1]), False)

    def test_neither_within_the_other(self):
        one = closed(narrowed(open_table(2), 1, 0, (5, False)))[1]
        other = closed(narrowed(open_table(2), 0, 2, (5, False)))[1]
        self.assertIs(within(one, other), False)
        self.assertIs(within(other, one), False)

    def test_just_where_the_points_are_all_the_others(self):
        seen = {True: 0, False: 0}
        for k in (1, 2):
            tables = self.closed_ones(24 + k, k, 60)
            points = {place: {tuple(point) for point in grid(k) if lies_in(table, point)}
                      for place, table in enumerate(tables)}
            for one, other in itertools.product(range(len(tables)), repeat=2):
                # The grid's points can't tell all, so what is both had together is looked at besides.
                expected = together(tables[one], tables[other]) == ("table", tables[one])
                told = within(tables[one], tables[other])
                self.assertIs(told, expected)
                if told:
                    self.assertLessEqual(points[one], points[other])
                seen[told] += 1
        self.assertGreater(min(seen.values()), 100)

    def test_great_tables(self):
        for table in GREAT_WITHOUT_RING:
            told = closed(table)[1]
            wider = closed([[None if (i, j) == (3, 9) else told[i][j] for j in range(len(told))]
                            for i in range(len(told))])[1]
            self.assertIs(within(told, wider), True)
            self.assertIs(within(wider, told), wider == told)

    def test_what_is_handed_in_stays(self):
        one = closed(narrowed(open_table(2), 1, 0, (5, False)))[1]
        other = closed(open_table(2))[1]
        before = copy.deepcopy((one, other))
        within(one, other)
        within(other, one)
        self.assertEqual((one, other), before)


class Interface(unittest.TestCase):
    def test_names_and_arguments(self):
        arguments = {"closed": "(table)", "together": "(one, other)", "within": "(one, other)"}
        for name, expected in arguments.items():
            self.assertEqual(str(inspect.signature(getattr(own, name))), expected, name)


if __name__ == "__main__":
    unittest.main()
