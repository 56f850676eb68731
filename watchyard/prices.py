"""Prices: the least price at which an ask is met, and a book of heights at corners by which no run is cheaper."""

from watchyard.asks import mosts
from watchyard.queues import Queue
from watchyard.slopes import corner_count, slopes_from
from watchyard.spots import spot_of, state_in
from watchyard.states import begun


class Fall:
    # The cheapest way from a corner to the ask: its price, how many steps it has, the first of them and the corner
    # (spot, number) to which that leads, None for both where the ask is met at once.
    def __init__(self, price, count, step, behind):
        self.price = price
        self.count = count
        self.step = step
        self.behind = behind


def priced(net, ask):
    most = mosts(net, [ask])
    start = spot_of(most, begun(net))
    falls = falls_from(net, most, ask, start)
    if len(falls[start]) == 0:
        return ("never", sorted(falls))
    return ("price", falls[start][0].price, [(spot, heights_of(falls[spot])) for spot in sorted(falls)])


def heights_of(own):
    # From one corner of a spot the ask can be met just where it can from all.
    if len(own) == 0:
        return None
    return tuple([own[number].price for number in range(len(own))])


def falls_from(net, most, ask, start):
    # For each spot that there is, a dict of the falls from its corners: none where the ask can't be met from there.
    # The cheapest are found first and, of these, those of the fewest steps: what comes first to a corner is the best.
    slopes = slopes_from(net, most, start)
    ahead = slopes_ahead(slopes)
    told = dict([(spot, {}) for spot in slopes])
    queue = queue_of([spot for spot in slopes if ask.meets(state_in(most, spot))])
    while not queue.is_empty():
        for corner, fall in queue.take():
            if corner[1] not in told[corner[0]]:
                told[corner[0]][corner[1]] = fall
                put_ahead(queue, ahead[corner[0]], corner, fall)
    return told


def slopes_ahead(slopes):
    told = dict([(spot, []) for spot in slopes])
    for spot in slopes:
        for slope in slopes[spot]:
            told[slope.goal].append((spot, slope))
    return told


def queue_of(met):
    told = Queue()
    for spot in met:
        for number in range(corner_count(spot)):
            put_fall(told, (spot, number), Fall(0, 0, None, None))
    return told


def put_ahead(queue, ahead, corner, fall):
    for spot, slope in ahead:
        for number, behind in enumerate(slope.becomes):
            if behind == corner[1]:
                longer = Fall(fall.price + slope.price, fall.count + 1, slope.step, corner)
                put_fall(queue, (spot, number), longer)


def put_fall(queue, corner, fall):
    queue.put((fall.price, fall.count), (corner, fall))
