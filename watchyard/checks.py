"""Checks: whether any list is a book, a plan, a counter-plan or a book of prices, entry by entry."""

from watchyard.asks import mosts
from watchyard.force import LET, LOST, MET, WAIT, YIELD, game_mosts, turn_at, word_if_over
from watchyard.fractions import is_whole
from watchyard.slopes import corner_count, goals_of, slopes_at
from watchyard.spots import spot_of, state_in
from watchyard.states import begun
from watchyard.ways import steps_from


def is_book(net, ask, book):
    most = mosts(net, [ask])
    if not rises_with_start(net, most, book):
        return False
    spots = dict([(spot, True) for spot in book])
    known = {}
    for spot in book:
        if ask.meets(state_in(most, spot)):
            return False
        if not all([goal in spots for step, goal in steps_from(net, most, spot, known)]):
            return False
    return True


def rises_with_start(net, most, spots):
    if not all([one < after for one, after in zip(spots, spots[1:])]):
        return False
    return spot_of(most, begun(net)) in spots


def is_plan(net, ask, shun, plan):
    most = game_mosts(net, ask, shun)
    if not rises_with_start(net, most, [entry[0] for entry in plan]):
        return False
    ranks = dict([(spot, rank) for spot, rank, word in plan])
    if not all([is_whole(rank) for rank in ranks.values()]):
        return False
    known = {}
    for spot, rank, word in plan:
        over = word_if_over(ask, shun, state_in(most, spot))
        if not fits_plan(net, ranks, turn_at(net, most, spot, over, known), rank, word):
            return False
    return True


def fits_plan(net, ranks, turn, rank, word):
    if turn.over is not None:
        return turn.over == MET and rank == 0 and word == MET
    if rank < 1 or not all([falls_to(ranks, goal, rank) for act, goal in turn.theirs]):
        return False
    if word == WAIT:
        return falls_to(ranks, turn.after, rank)
    if word == YIELD:
        return not turn.waits and len(turn.theirs) > 0
    return falls_to(ranks, goal_by(net, "go", word, turn.ours), rank)


def falls_to(ranks, goal, rank):
    return goal in ranks and ranks[goal] < rank


def goal_by(net, name, word, ways):
    # To which spot the act of a word of this name leads, None where it is another word or the act is none of these.
    if not isinstance(word, tuple) or len(word) != 2 or word[0] != name or not net.is_act(word[1]):
        return None
    return dict(ways).get(word[1])


def is_counter(net, ask, shun, counter):
    most = game_mosts(net, ask, shun)
    if not rises_with_start(net, most, [entry[0] for entry in counter]):
        return False
    words = dict(counter)
    known = {}
    for spot, word in counter:
        over = word_if_over(ask, shun, state_in(most, spot))
        if not fits_counter(net, words, turn_at(net, most, spot, over, known), word):
            return False
    return True


def fits_counter(net, words, turn, word):
    if turn.over is not None:
        return turn.over == LOST and word == LOST
    if word != LET:
        return goal_by(net, "cut", word, turn.theirs) in words
    if not turn.waits and len(turn.theirs) > 0:
        return False
    return all([goal in words for act, goal in turn.ours]) and (turn.after is None or turn.after in words)


def is_price_book(net, ask, price, book):
    most = mosts(net, [ask])
    start = spot_of(most, begun(net))
    if not rises_with_start(net, most, [entry[0] for entry in book]):
        return False
    heights = dict(book)
    if not all([fits_corners(spot, own) for spot, own in book]) or heights[start] != (price,):
        return False
    known = {}
    for spot in heights:
        met = ask.meets(state_in(most, spot))
        if not fits_price_book(heights, spot, met, slopes_at(net, most, spot, known)):
            return False
    return True


def fits_corners(spot, heights):
    if heights is None:
        return True
    if not isinstance(heights, tuple) or len(heights) != corner_count(spot):
        return False
    return all([is_whole(height) for height in heights])


def fits_price_book(heights, spot, met, slopes):
    if not all([goal in heights for goal in goals_of(slopes)]):
        return False
    own = heights[spot]
    if own is None:
        return not met and all([heights[goal] is None for goal in goals_of(slopes)])
    if met and max(own) > 0:
        return False
    return all([keeps_slope(own, heights[slope.goal], slope) for slope in slopes])


def keeps_slope(own, behind, slope):
    if behind is None:
        return True
    for height, number in zip(own, slope.becomes):
        if number is not None and height > slope.price + behind[number]:
            return False
    return True
