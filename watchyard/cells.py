"""Cells: tuples (whole, rank) for each watch, alike for all times that no condition ever tells apart."""

from watchyard.fractions import floor_of, fraction, less, minus


def cell_of(most, times):
    within = [time for greatest, time in zip(most, times) if not is_past(greatest, time)]
    parts = broken_parts(within)
    return tuple([place_of(greatest, time, parts) for greatest, time in zip(most, times)])


def is_past(greatest, time):
    return less(fraction(greatest), time)


def broken_parts(times):
    # Each once, those of whole numbers left out.
    told = []
    for time in times:
        part = broken_part(time)
        if part != fraction(0) and part not in told:
            told.append(part)
    return told


def broken_part(time):
    return minus(time, fraction(floor_of(time)))


def place_of(greatest, time, parts):
    if is_past(greatest, time):
        return (greatest + 1, 0)
    own = broken_part(time)
    return (floor_of(time), len([part for part in parts if not less(own, part)]))


def next_cell(most, cell):
    if is_moment(most, cell):
        return behind_moment(most, cell)
    last = ranks_of(cell)[-1]
    # All watches are beyond, or there is none.
    if last == 0:
        return None
    return tuple([(whole + 1, 0) if rank == last else (whole, rank) for whole, rank in cell])


def is_moment(most, cell):
    return any([place[1] == 0 and place[0] <= greatest for greatest, place in zip(most, cell)])


def behind_moment(most, cell):
    # The watches that leave a whole number have the least broken part of all.
    leaving = any([place[1] == 0 and place[0] < greatest for greatest, place in zip(most, cell)])
    step = 1 if leaving else 0
    return tuple([place_behind_moment(greatest, place, step) for greatest, place in zip(most, cell)])


def place_behind_moment(greatest, place, step):
    if place[1] > 0:
        return (place[0], place[1] + step)
    if place[0] < greatest:
        return (place[0], 1)
    return (greatest + 1, 0)


def ranks_of(cell):
    # Rising, each once, 0 always among them.
    return sorted(set([0] + [rank for whole, rank in cell]))


def standard(most, cell):
    # Broken parts at even steps; a watch that is beyond shows the whole number behind its greatest.
    steps = len(ranks_of(cell))
    return tuple([fraction(whole * steps + rank, steps) for whole, rank in cell])


def put_back(cell, numbers):
    told = [(0, 0) if number in numbers else place for number, place in enumerate(cell)]
    ranks = ranks_of(told)
    return tuple([(whole, ranks.index(rank)) for whole, rank in told])


def corners(cell):
    count = len(ranks_of(cell))
    return [corner(cell, count - 1 - number) for number in range(count)]


def corner(cell, level):
    return tuple([whole + 1 if rank > level else whole for whole, rank in cell])
