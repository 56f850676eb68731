"""Prices for the tests to hold the program's against, reckoned without it; and lists that are changed a little."""

import fractions
import heapq
import itertools

from making import Looked, order_faults, some_state_in, yard_acted, yard_acts, yard_doors, yard_meets, yard_rooms
from making import yard_start, yard_stays, yard_waited


def yard_price(yard, act):
    return sum(yard_doors(yard)[number][1]["price"] or 0 for number in act)


def yard_rate(yard, rooms):
    return sum(room["price"] or 0 for room in yard_rooms(yard, (rooms,)))


def yard_hurries(yard, rooms):
    return any(room["hurry"] for room in yard_rooms(yard, (rooms,)))


def yard_resets(yard, act):
    deeds = [deed for number in act for deed in yard_doors(yard)[number][1]["deeds"]]
    return {yard["watches"].index(name) for name, sign, number in deeds if name in yard["watches"]}


def yard_gone(yard, run):
    """The last state and the price of the run, None where it can't be gone."""
    state, price = yard_start(yard), fractions.Fraction(0)
    for wait, act in run:
        price += fractions.Fraction(*wait) * yard_rate(yard, state[0]) + yard_price(yard, act)
        state = yard_waited(yard, state, wait)
        state = state if state is None or act == () else yard_acted(yard, state, act)
        if state is None:
            return None
    return (state, price)


def with_prices(chance, yard, greatest=9):
    """The yard with prices at some rooms and doors."""
    for machine in yard["machines"]:
        for thing in machine["rooms"] + machine["doors"]:
            thing["price"] = chance.choice([None, 0, chance.randint(1, greatest), chance.randint(1, greatest)])
    return yard


def kept_at_whole_times(yard):
    """The yard without the signs < and >: whatever is done in it can be done at whole times."""
    for machine in yard["machines"]:
        for thing, name in [(room, "stays") for room in machine["rooms"]] + [(door, "conds") for door in
                                                                              machine["doors"]]:
            thing[name] = no_strict(thing[name])
    return yard


def no_strict(threes):
    return [(name, {"<": "<=", ">": ">="}.get(sign, sign), number) for name, sign, number in threes]


def price_at_whole_times(yard, ask, most):
    """The least price of the runs whose waits are whole numbers, None where none of them meets the ask."""
    heap = [(0, yard_start(yard))]
    done = set()
    while heap:
        price, state = heapq.heappop(heap)
        if state in done:
            continue
        if yard_meets(yard, ask, state):
            return price
        done.add(state)
        after = yard_waited(yard, state, (1, 1))
        if after is not None:
            shown = tuple((min(time[0], number + 1), 1) for time, number in zip(after[2], most))
            heapq.heappush(heap, (price + yard_rate(yard, state[0]), (after[0], after[1], shown)))
        for act in yard_acts(yard):
            after = yard_acted(yard, state, act)
            if after is not None:
                heapq.heappush(heap, (price + yard_price(yard, act), after))
    return None


# Books of prices, looked through entry by entry.

def corners_reckoned(cell):
    count = len({rank for whole, rank in cell if rank > 0})
    return [tuple(whole + (rank > count - number) for whole, rank in cell) for number in range(count + 1)]


def goals_at(looked, spot):
    here = looked.at(spot)
    return list(here["ours"].values()) + list(here["theirs"].values()) + [here["later"]] * (here["later"] is not None)


def price_book_faults(yard, ask, price, book, looked=None):
    """What is wrong with it, by the words of the document, each inequality by itself."""
    looked = looked or Looked(yard, [ask])
    told = list(order_faults(looked, [spot for spot, heights in book]))
    heights = dict(book)
    if heights.get(looked.start) != (price,):
        told.append("another price")
    for spot, own in book:
        if own is not None and [type(each) for each in own] != [int] * len(corners_reckoned(spot[2])):
            return told + [f"wrong heights at {spot}"]
    for spot, own in book:
        if any(goal not in heights for goal in goals_at(looked, spot)):
            told.append(f"not closed at {spot}")
        elif own is None:
            if looked.meets(ask, spot) or any(heights[goal] is not None for goal in goals_at(looked, spot)):
                told.append(f"None at {spot}")
        else:
            told += height_faults(looked, ask, heights, spot)
    return told


def height_faults(looked, ask, heights, spot):
    own, here, cell = heights[spot], looked.at(spot), spot[2]
    moment = any(rank == 0 and whole <= number for number, (whole, rank) in zip(looked.most, cell))
    told = ["met above 0"] if looked.meets(ask, spot) and any(height > 0 for height in own) else []
    after = None if here["later"] is None else heights[here["later"]]
    if after is not None and moment:
        told += [f"moment {spot} {c}" for c in range(len(own)) if own[c] > after[c]]
    if after is not None and not moment:
        told += [f"between {spot} {c}" for c in range(1, len(own)) if own[c] > after[c - 1]]
    if not moment and any(rank > 0 for whole, rank in cell) and not yard_hurries(looked.yard, spot[0]):
        told += [f"rate {spot}"] if own[0] > own[-1] + yard_rate(looked.yard, spot[0]) else []
    for act, goal in {**here["ours"], **here["theirs"]}.items():
        resets = yard_resets(looked.yard, act)
        for corner, height in zip(corners_reckoned(cell), own):
            became = tuple(0 if watch in resets else number for watch, number in enumerate(corner))
            if heights[goal] is not None:
                behind = heights[goal][corners_reckoned(goal[2]).index(became)]
                told += [f"act {act} {spot} {corner}"] if height > behind + yard_price(looked.yard, act) else []
    return told


def none_faults(yard, ask, book):
    """Spots of a closed book that have heights though no run from there meets the ask, or None though one does."""
    looked = Looked(yard, [ask])
    live = {spot for spot, heights in book if looked.meets(ask, spot)}
    grown = True
    while grown:
        more = {spot for spot, heights in book if spot not in live and live & set(goals_at(looked, spot))}
        grown = len(more) > 0
        live |= more
    return [spot for spot, heights in book if (heights is None) == (spot in live)]


# Changed lists.

def other_spots(chance, yard, most, spots, count):
    """Spots that states have, and that are none of these."""
    told = []
    for unused in range(40):
        rooms = tuple(chance.choice(machine["rooms"])["name"] for machine in yard["machines"])
        boxes = tuple(chance.randint(low, high) for name, low, high, start in yard["boxes"])
        shown = chance.choice(spots)[2]
        state = some_state_in(chance, most, (rooms, boxes, shown))
        if (rooms, boxes, shown) not in spots + told and yard_stays(yard, state):
            told.append((rooms, boxes, shown))
    return told[:count]


def put_in(entries, entry):
    """Where it keeps the list rising."""
    place = len([each for each in entries if each[0] < entry[0]])
    return entries[:place] + [entry] + entries[place:]


def rearranged(entries):
    """The list without each entry, with one twice, turned about, two of it in each other's place, empty."""
    for place in range(len(entries)):
        yield entries[:place] + entries[place + 1:]
        yield entries[:place] + [entries[place]] + entries[place:]
    yield entries[::-1]
    yield entries[1:] + entries[:1]
    yield entries + entries
    yield []


def exchanged(entries, place, entry):
    return entries[:place] + [entry] + entries[place + 1:]


def changed_plans(yard, plan, more):
    yield from rearranged(plan)
    words = [("met",), ("wait",), ("yield",), ("let",), ("lost",)]
    words += [(name, act) for name in ("go", "cut") for act in yard_acts(yard)]
    for place, (spot, rank, word) in enumerate(plan):
        for number in (rank - 1, rank + 1, 0, 1, rank + 1000):
            yield exchanged(plan, place, (spot, number, word))
        for other in words:
            yield exchanged(plan, place, (spot, rank, other))
            yield exchanged(plan, place, (spot, rank + 1000, other))
    for spot, word, rank in itertools.product(more, words, (0, 1, 1000)):
        yield put_in(plan, (spot, rank, word))


def changed_counters(yard, counter, more):
    yield from rearranged(counter)
    words = [("met",), ("wait",), ("yield",), ("let",), ("lost",)]
    words += [(name, act) for name in ("go", "cut") for act in yard_acts(yard)]
    for place, (spot, word) in enumerate(counter):
        for other in words:
            yield exchanged(counter, place, (spot, other))
    for spot, word in itertools.product(more, words):
        yield put_in(counter, (spot, word))


def changed_books(book, more):
    yield from rearranged(book)
    for spot in more:
        yield sorted(book + [spot])
    yield sorted(book + more)


def changed_price_books(book, more):
    yield from rearranged(book)
    for place, (spot, heights) in enumerate(book):
        size = len(corners_reckoned(spot[2]))
        others = [None, (0,) * (size + 1), (0,) * (size - 1)] + [(number,) * size for number in (0, -1, 5, 10 ** 40)]
        if heights is not None:
            others += [heights + heights[-1:], heights[:-1], (0,) + heights, heights[::-1]]
        for number in range(0 if heights is None else size):
            for step in (-1, 1):
                others.append(heights[:number] + (heights[number] + step,) + heights[number + 1:])
        for other in others:
            yield exchanged(book, place, (spot, other))
    for spot in more:
        size = len(corners_reckoned(spot[2]))
        for heights in (None, (0,) * size, (-(10 ** 40),) * size, (3,) * size, (10 ** 40,) * size, (0,) * (size + 1)):
            yield put_in(book, (spot, heights))
    yield [(spot, None) for spot, heights in book]
    yield [(spot, (0,) * len(corners_reckoned(spot[2]))) for spot, heights in book]
    yield [(spot, heights and tuple(height - 1 for height in heights)) for spot, heights in book]
