"""Waits from one cell to the next, for exact times."""

from watchyard.cells import cell_of, is_moment
from watchyard.fractions import floor_of, fraction, less, minus, times
from watchyard.points import least

HALF = (1, 2)


def till_moment(most, shown):
    # How long it takes until a watch that matters shows a whole number again; None where none ever does.
    left = [minus(fraction(floor_of(time) + 1), time) for greatest, time in zip(most, shown) if below(time, greatest)]
    return least(left)


def below(time, greatest):
    return less(time, fraction(greatest))


def wait_on(most, shown):
    # To the next cell: to its only times where it is a moment, else half of the way through it.
    left = till_moment(most, shown)
    if not is_moment(most, cell_of(most, shown)):
        return left
    return fraction(1) if left is None else times(left, HALF)
