"""Queues: things that are put in at ranks, and are taken out again rank by rank, the least first."""


class Queue:
    def __init__(self):
        # Many things have one rank: only the ranks are kept in order, each once, as a heap: the one at half a
        # place is never greater than the one at the place.
        self.ranks = []
        self.things = {}

    def is_empty(self):
        return len(self.ranks) == 0

    def put(self, rank, thing):
        if rank in self.things:
            self.things[rank].append(thing)
        else:
            self.things[rank] = [thing]
            self.ranks.append(rank)
            lift(self.ranks, len(self.ranks) - 1)

    def take(self):
        # All things of the least rank, in the order in which they were put in.
        least = self.ranks[0]
        last = self.ranks.pop()
        if len(self.ranks) > 0:
            self.ranks[0] = last
            sink(self.ranks, 0)
        return self.things.pop(least)


def lift(ranks, place):
    rank = ranks[place]
    while place > 0 and rank < ranks[(place - 1) // 2]:
        ranks[place] = ranks[(place - 1) // 2]
        place = (place - 1) // 2
    ranks[place] = rank


def sink(ranks, place):
    rank = ranks[place]
    below = lesser_below(ranks, place)
    while below is not None and ranks[below] < rank:
        ranks[place] = ranks[below]
        place = below
        below = lesser_below(ranks, place)
    ranks[place] = rank


def lesser_below(ranks, place):
    below = 2 * place + 1
    if below >= len(ranks):
        return None
    if below + 1 < len(ranks) and ranks[below + 1] < ranks[below]:
        return below + 1
    return below
