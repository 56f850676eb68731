"""Force: a plan by which we win whatever the weather does, or a counter-plan that keeps us from it."""

from watchyard.asks import mosts
from watchyard.openings import leads, looked_through
from watchyard.spots import later, may_wait, spot_of, state_in
from watchyard.states import begun

MET = ("met",)
LOST = ("lost",)
WAIT = ("wait",)
YIELD = ("yield",)
LET = ("let",)


class Turn:
    # What can come of a spot: the word where the game is over there, tuples (act, spot) for our acts and
    # for the weather's, the spot to which who waits comes, and whether a wait above 0 may be done.
    def __init__(self, over, ours, theirs, after, waits):
        self.over = over
        self.ours = ours
        self.theirs = theirs
        self.after = after
        self.waits = waits


def forced(net, ask, shun=None):
    most = game_mosts(net, ask, shun)
    start = spot_of(most, begun(net))
    turns = turns_from(net, most, start, ask, shun)
    plan = planned(turns)
    if start in plan:
        return ("plan", [(spot,) + plan[spot] for spot in sorted(plan)])
    return ("counter", [(spot, counter_word(plan, turns[spot])) for spot in sorted(turns) if spot not in plan])


def game_mosts(net, ask, shun):
    return mosts(net, [ask] if shun is None else [ask, shun])


def turns_from(net, most, start, ask, shun):
    known = {}

    def turn_of(spot):
        return turn_at(net, most, spot, word_if_over(ask, shun, state_in(most, spot)), known)

    return looked_through(start, turn_of, goals_of)


def word_if_over(ask, shun, state):
    if shun is not None and shun.meets(state):
        return LOST
    return MET if ask.meets(state) else None


def turn_at(net, most, spot, over, known):
    if over is not None:
        return Turn(over, [], [], None, False)
    ways = leads(net, most, spot, known)
    ours = [way for way in ways if not net.is_weather(way[0])]
    theirs = [way for way in ways if net.is_weather(way[0])]
    after = later(net, most, spot)
    return Turn(None, ours, theirs, after, after is not None or may_wait(net, most, spot))


def goals_of(turn):
    told = [goal for act, goal in turn.ours + turn.theirs]
    return told if turn.after is None else told + [turn.after]


def planned(turns):
    # A tuple (rank, word) for each spot from which we win. Whoever gets a rank has a goal of just one less:
    # so only spots ahead of the last ones found are looked at again.
    ahead = spots_ahead(turns)
    told = {}
    rank = 0
    fresh = [(spot, MET) for spot in turns if turns[spot].over == MET]
    while len(fresh) > 0:
        for spot, word in fresh:
            told[spot] = (rank, word)
        rank = rank + 1
        fresh = planned_ahead(turns, told, ahead, fresh)
    return told


def spots_ahead(turns):
    told = dict([(spot, []) for spot in turns])
    for spot in turns:
        for goal in goals_of(turns[spot]):
            told[goal].append(spot)
    return told


def planned_ahead(turns, plan, ahead, fresh):
    words = {}
    for goal, unused in fresh:
        for spot in ahead[goal]:
            if spot not in plan:
                words[spot] = plan_word(plan, turns[spot])
    return [(spot, word) for spot, word in words.items() if word is not None]


def plan_word(plan, turn):
    if not all([goal in plan for act, goal in turn.theirs]):
        return None
    for act, goal in turn.ours:
        if goal in plan:
            return ("go", act)
    if turn.after in plan:
        return WAIT
    return YIELD if len(turn.theirs) > 0 and not turn.waits else None


def counter_word(plan, turn):
    if turn.over is not None:
        return turn.over
    for act, goal in turn.theirs:
        if goal not in plan:
            return ("cut", act)
    return LET
