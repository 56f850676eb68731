"""Tables for the tests to ask about, and their answers, reckoned without the program."""

import fractions
import itertools
import math

SIXTY = 10 ** 60 - 1


def order_of(bound):
    """Something to sort bounds by, the tightest first."""
    return (1, 0, 0) if bound is None else (0, bound[0], not bound[1])


def total_of(bounds):
    if None in bounds:
        return None
    return (sum(number for number, strict in bounds), any(strict for number, strict in bounds))


def round_of(table, things):
    """The sum of the bounds from each thing to the next, and from the last to the first."""
    return total_of([table[thing][after] for thing, after in zip(things, things[1:] + things[:1])])


def kept_by_0(bound):
    return bound is None or bound[0] > 0 or bound == (0, False)


def ways_between(i, j, size):
    others = [thing for thing in range(size) if thing not in (i, j)]
    for length in range(len(others) + 1):
        for middle in itertools.permutations(others, length):
            yield [i] + list(middle)


def has_ring(table):
    """By trying each list of unlike things: for small tables."""
    size = len(table)
    return any(
        not kept_by_0(round_of(table, list(things)))
        for length in range(1, size + 1) for things in itertools.permutations(range(size), length))


def closed_by_trying(table):
    """The tightest of the sums over all ways: for small tables without a ring."""
    size = len(table)
    told = [[(0, False)] * size for unused in range(size)]
    for i, j in itertools.permutations(range(size), 2):
        sums = []
        for way in ways_between(i, j, size):
            sums.append(total_of([table[one][after] for one, after in zip(way, way[1:] + [j])]))
        told[i][j] = min(sums, key=order_of)
    return told


def some_table(chance, k, low=-2, high=6, open_share=0.4):
    """A table of any bounds, with a ring or without one."""
    def some_bound():
        return None if chance.random() < open_share else (chance.randint(low, high), chance.random() < 0.5)
    return [[some_bound() for unused in range(k + 1)] for unused in range(k + 1)]


def values_of(point):
    return [fractions.Fraction(0)] + [fractions.Fraction(top, bottom) for top, bottom in point]


def table_about(chance, point, slack, open_share=0.4):
    """A table in which the point lies: it has no ring."""
    values = values_of(point)
    size = len(values)
    table = [[None] * size for unused in range(size)]
    for i, j in itertools.product(range(size), repeat=2):
        if chance.random() >= open_share:
            number = math.ceil(values[i] - values[j]) + chance.choice([0, 0, chance.randint(0, slack)])
            table[i][j] = (number, values[i] - values[j] < number and chance.random() < 0.5)
    return table


def some_point(chance, k, reach=9, bottoms=(1, 2, 3, 4)):
    made = [fractions.Fraction(chance.randint(-reach, reach), chance.choice(bottoms)) for unused in range(k)]
    return [(value.numerator, value.denominator) for value in made]


def tables_without_ring(chance, count, most_things=5):
    for unused in range(count):
        point = some_point(chance, chance.randint(0, most_things))
        yield table_about(chance, point, chance.choice([0, 1, 8]), chance.choice([0.0, 0.3, 0.7]))


def great_tables_without_ring(seed_chance):
    """Of up to forty things, with numbers of up to sixty figures."""
    for k, bottoms, open_share in [(40, (1,), 0.0), (40, (1, 7), 0.5), (40, (SIXTY - 1, 3), 0.95), (23, (1, 2), 0.9)]:
        point = some_point(seed_chance, k, SIXTY // 4, bottoms)
        yield table_about(seed_chance, point, SIXTY // 4, open_share)


def planted(chance, table, things, total):
    """The table with a ring of these things put in, its bounds' sum being the total."""
    told = [list(row) for row in table]
    number, strict = total
    for thing, after in zip(things, things[1:]):
        step = chance.randint(-SIXTY // 50, SIXTY // 50)
        told[thing][after] = (step, strict and chance.random() < 0.5)
        number = number - step
    told[things[-1]][things[0]] = (number, strict)
    return told
