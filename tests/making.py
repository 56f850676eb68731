"""Tables and nets for the tests to ask about, and their answers, reckoned without the program."""

import copy
import fractions
import itertools
import math
import operator
import random
import re

SIXTY = 10 ** 60 - 1


def order_of(bound):
    """Something to sort bounds by, the tightest first."""
    return (1, 0, 0) if bound is None else (0, bound[0], not bound[1])


def total_of(bounds):
    if None in bounds:
        return None
    return (sum(number for number, strict in bounds), any(strict for number, strict in bounds))


def round_of(table, things):
    """The sum of the bounds from each thing to the next, and from the last to the first."""
    return total_of([table[thing][after] for thing, after in zip(things, things[1:] + things[:1])])


def kept_by_0(bound):
    return bound is None or bound[0] > 0 or bound == (0, False)


def ways_between(i, j, size):
    others = [thing for thing in range(size) if thing not in (i, j)]
    for length in range(len(others) + 1):
        for middle in itertools.permutations(others, length):
            yield [i] + list(middle)


def has_ring(table):
    """By trying each list of unlike things: for small tables."""
    size = len(table)
    return any(
        not kept_by_0(round_of(table, list(things)))
        for length in range(1, size + 1) for things in itertools.permutations(range(size), length))


def closed_by_trying(table):
    """The tightest of the sums over all ways: for small tables without a ring."""
    size = len(table)
    told = [[(0, False)] * size for unused in range(size)]
    for i, j in itertools.permutations(range(size), 2):
        sums = []
        for way in ways_between(i, j, size):
            sums.append(total_of([table[one][after] for one, after in zip(way, way[1:] + [j])]))
        told[i][j] = min(sums, key=order_of)
    return told


def some_table(chance, k, low=-2, high=6, open_share=0.4):
    """A table of any bounds, with a ring or without one."""
    def some_bound():
        return None if chance.random() < open_share else (chance.randint(low, high), chance.random() < 0.5)
    return [[some_bound() for unused in range(k + 1)] for unused in range(k + 1)]


def values_of(point):
    return [fractions.Fraction(0)] + [fractions.Fraction(top, bottom) for top, bottom in point]


def table_about(chance, point, slack, open_share=0.4):
    """A table in which the point lies: it has no ring."""
    values = values_of(point)
    size = len(values)
    table = [[None] * size for unused in range(size)]
    for i, j in itertools.product(range(size), repeat=2):
        if chance.random() >= open_share:
            number = math.ceil(values[i] - values[j]) + chance.choice([0, 0, chance.randint(0, slack)])
            table[i][j] = (number, values[i] - values[j] < number and chance.random() < 0.5)
    return table


def some_point(chance, k, reach=9, bottoms=(1, 2, 3, 4)):
    made = [fractions.Fraction(chance.randint(-reach, reach), chance.choice(bottoms)) for unused in range(k)]
    return [(value.numerator, value.denominator) for value in made]


def tables_without_ring(chance, count, most_things=5):
    for unused in range(count):
        point = some_point(chance, chance.randint(0, most_things))
        yield table_about(chance, point, chance.choice([0, 1, 8]), chance.choice([0.0, 0.3, 0.7]))


def great_tables_without_ring(seed_chance):
    """Of up to forty things, with numbers of up to sixty figures."""
    for k, bottoms, open_share in [(40, (1,), 0.0), (40, (1, 7), 0.5), (40, (SIXTY - 1, 3), 0.95), (23, (1, 2), 0.9)]:
        point = some_point(seed_chance, k, SIXTY // 4, bottoms)
        yield table_about(seed_chance, point, SIXTY // 4, open_share)


def planted(chance, table, things, total):
    """The table with a ring of these things put in, its bounds' sum being the total."""
    told = [list(row) for row in table]
    number, strict = total
    for thing, after in zip(things, things[1:]):
        step = chance.randint(-SIXTY // 50, SIXTY // 50)
        told[thing][after] = (step, strict and chance.random() < 0.5)
        number = number - step
    told[things[-1]][things[0]] = (number, strict)
    return told


# Nets. A yard is a dict that says what a net's text says:
# watches: names; boxes: tuples (name, low, high, start); machines: dicts with name, rooms and doors.
# A room is a dict with name, price (None for none), hurry and stays; a door one with start, goal, weather, word,
# price, conds and deeds. Conditions and deeds are tuples (name, sign, number).

ROW_WORDS = "watch box machine room door price hurry stay weather say hear when do at".split()
COMPARED = {"<": operator.lt, "<=": operator.le, "==": operator.eq, "!=": operator.ne, ">=": operator.ge,
            ">": operator.gt}
WATCH_SIGNS = ["<", "<=", "==", ">=", ">"]
BOX_SIGNS = WATCH_SIGNS + ["!="]
PRICE = 10 ** 30


def some_name(chance, taken=()):
    while True:
        length = chance.choice([1, 1, 2, 8, chance.randint(1, 8)])
        name = chance.choice(ROW_WORDS + ["".join(chance.choices("abcxyz", k=length))] * 20)
        if name not in taken:
            return name


def some_room(chance, yard, name, most):
    stays = []
    for unused in range(chance.choice([0, 0, 1, 2]) if yard["watches"] else 0):
        sign = chance.choice(["<", "<="])
        stays.append((chance.choice(yard["watches"]), sign, chance.randint(sign == "<", most)))
    return {"name": name, "price": chance.choice([None, 0, chance.randint(1, 9), PRICE]),
            "hurry": chance.random() < 0.15, "stays": stays}


def some_conds(chance, yard, most):
    told = []
    for unused in range(chance.choice([0, 0, 1, 1, 2, 3])):
        if yard["watches"] and chance.random() < 0.6:
            told.append((chance.choice(yard["watches"]), chance.choice(WATCH_SIGNS), chance.randint(0, most)))
        elif yard["boxes"]:
            name, low, high, unused_start = chance.choice(yard["boxes"])
            told.append((name, chance.choice(BOX_SIGNS), chance.choice([-20, 20, chance.randint(low, high)])))
    return told


def some_deeds(chance, yard):
    told = []
    for unused in range(chance.choice([0, 0, 1, 2, 3])):
        if yard["watches"] and chance.random() < 0.6:
            told.append((chance.choice(yard["watches"]), "=", 0))
        elif yard["boxes"]:
            name, low, high, unused_start = chance.choice(yard["boxes"])
            sign = chance.choice("=+-")
            told.append((name, sign, chance.randint(low, high) if sign == "=" else chance.choice([1, 1, 2, 20])))
    return told


def some_door(chance, yard, rooms, most):
    word = None
    if chance.random() < 0.5:
        word = (chance.choice(["say", "hear"]), chance.choice(["go", "say", "when"]))
    return {"start": chance.choice(rooms), "goal": chance.choice(rooms), "weather": chance.random() < 0.3, "word": word,
            "price": chance.choice([None, 0, chance.randint(1, 9), PRICE]),
            "conds": some_conds(chance, yard, most), "deeds": some_deeds(chance, yard)}


def some_yard(chance, most=60, fullest=False):
    yard = {"watches": [], "boxes": [], "machines": []}
    taken = []
    for unused in range(4 if fullest else chance.randint(0, 4)):
        yard["watches"].append(some_name(chance, taken))
        taken.append(yard["watches"][-1])
    for unused in range(3 if fullest else chance.randint(0, 3)):
        low, start, high = sorted(chance.choice([-20, 20, 0, chance.randint(-20, 20)]) for place in range(3))
        yard["boxes"].append((some_name(chance, taken), low, high, start))
        taken.append(yard["boxes"][-1][0])
    doors = 24 if fullest else chance.randint(0, 24)
    machines = 4 if fullest else chance.randint(1, 4)
    for place in range(machines):
        machine = {"name": some_name(chance, taken), "rooms": [], "doors": []}
        taken.append(machine["name"])
        names = []
        for unused in range(6 if fullest else chance.randint(1, 6)):
            names.append(some_name(chance, names))
            machine["rooms"].append(some_room(chance, yard, names[-1], most))
        share = doors if place == machines - 1 else chance.randint(0, doors)
        doors = doors - share
        machine["doors"] = [some_door(chance, yard, names, most) for unused in range(share)]
        yard["machines"].append(machine)
    return yard


def list_text(threes):
    return ", ".join(f"{name} {sign} {number}" for name, sign, number in threes)


def room_text(room):
    words = ["room", room["name"]]
    words += ["price", str(room["price"])] if room["price"] is not None else []
    words += ["hurry"] if room["hurry"] else []
    words += ["stay", list_text(room["stays"])] if room["stays"] else []
    return " ".join(words)


def door_text(door):
    words = ["door", door["start"], door["goal"]]
    words += ["weather"] if door["weather"] else []
    words += list(door["word"] or ())
    words += ["price", str(door["price"])] if door["price"] is not None else []
    words += ["when", list_text(door["conds"])] if door["conds"] else []
    words += ["do", list_text(door["deeds"])] if door["deeds"] else []
    return " ".join(words)


def yard_text(yard):
    rows = [f"watch {name}" for name in yard["watches"]]
    rows += ["box " + " ".join(str(word) for word in box) for box in yard["boxes"]]
    for machine in yard["machines"]:
        rows.append(f"machine {machine['name']}")
        rows += [room_text(room) for room in machine["rooms"]]
        rows += [door_text(door) for door in machine["doors"]]
    return "".join(f"{row}\n" for row in rows)


def yard_doors(yard):
    """Pairs of a machine's number and a door, in the text's order."""
    return [(place, door) for place, machine in enumerate(yard["machines"]) for door in machine["doors"]]


def yard_acts(yard):
    doors = yard_doors(yard)
    told = [(number,) for number, (machine, door) in enumerate(doors) if door["word"] is None]
    for (one, (first, says)), (other, (second, hears)) in itertools.permutations(enumerate(doors), 2):
        if says["word"] and hears["word"] and first != second:
            if says["word"] == ("say", hears["word"][1]) and hears["word"][0] == "hear":
                told.append((one, other))
    return sorted(told)


def yard_rooms(yard, state):
    return [next(room for room in machine["rooms"] if room["name"] == name)
            for machine, name in zip(yard["machines"], state[0])]


def yard_start(yard):
    return (tuple(machine["rooms"][0]["name"] for machine in yard["machines"]),
            tuple(box[3] for box in yard["boxes"]), tuple((0, 1) for unused in yard["watches"]))


def yard_holds(yard, conds, state):
    shows = {name: fractions.Fraction(*time) for name, time in zip(yard["watches"], state[2])}
    shows.update({box[0]: number for box, number in zip(yard["boxes"], state[1])})
    return all(COMPARED[sign](shows[name], number) for name, sign, number in conds)


def yard_stays(yard, state):
    return all(yard_holds(yard, room["stays"], state) for room in yard_rooms(yard, state))


def yard_waited(yard, state, wait):
    """The state behind the wait, None where it may not be done."""
    if wait[0] < 0 or (wait[0] > 0 and any(room["hurry"] for room in yard_rooms(yard, state))):
        return None
    sums = [fractions.Fraction(*time) + fractions.Fraction(*wait) for time in state[2]]
    told = (state[0], state[1], tuple((each.numerator, each.denominator) for each in sums))
    return told if wait[0] == 0 or yard_stays(yard, told) else None


def yard_acted(yard, state, act):
    """The state behind the act, None where it may not be done."""
    rooms, boxes, watches = list(state[0]), list(state[1]), list(state[2])
    pairs = [yard_doors(yard)[number] for number in act]
    for machine, door in pairs:
        if rooms[machine] != door["start"] or not yard_holds(yard, door["conds"], state):
            return None
    for machine, door in pairs:
        rooms[machine] = door["goal"]
        for name, sign, number in door["deeds"]:
            if name in yard["watches"]:
                watches[yard["watches"].index(name)] = (0, 1)
                continue
            place = [box[0] for box in yard["boxes"]].index(name)
            boxes[place] = {"=": number, "+": boxes[place] + number, "-": boxes[place] - number}[sign]
            if boxes[place] not in range(yard["boxes"][place][1], yard["boxes"][place][2] + 1):
                return None
    told = (tuple(rooms), tuple(boxes), tuple(watches))
    return told if yard_stays(yard, told) else None


NAME = "([a-z]{1,8})"
NUMBER = "(0|-?[1-9][0-9]*)"
THREE = f"{NAME} (<|<=|==|>=|>|!=|=|[+]|-) {NUMBER}"
THREES = f"((?:{THREE}, )*{THREE})".replace("(0|", "(?:0|").replace("([a", "(?:[a").replace("(<", "(?:<")
ROWS = {
    "w": f"watch {NAME}", "b": f"box {NAME} {NUMBER} {NUMBER} {NUMBER}", "m": f"machine {NAME}",
    "r": f"room {NAME}(?: price {NUMBER})?( hurry)?(?: stay {THREES})?",
    "d": f"door {NAME} {NAME}( weather)?(?: (?:say|hear) {NAME})?(?: price {NUMBER})?(?: when {THREES})?"
         f"(?: do {THREES})?"}
KINDS = "w{0,4}b{0,3}(?:mr{1,6}d*){1,4}"


def threes_in(text):
    return re.findall(THREE, text) if text else []


def threes_fit(text, watch_signs, box_signs, watches, boxes, kind):
    """Whether each condition (kind: when or stay) or deed (kind: do) is one that its row may have."""
    for name, sign, number in threes_in(text):
        number = int(number)
        if name in watches:
            fits = sign in watch_signs and 0 <= number <= (0 if kind == "do" else 60)
            fits = fits and not (kind == "stay" and sign == "<" and number == 0)
        else:
            low = 1 if kind == "do" and sign != "=" else -20
            fits = name in boxes and sign in box_signs and low <= number <= 20
        if not fits:
            return False
    return True


def begins_net(rows):
    """Whether some net's text begins with these rows, looked at by patterns."""
    found = []
    for row in rows:
        kinds = [kind for kind, pattern in ROWS.items() if re.fullmatch(pattern, row)]
        if not kinds:
            return False
        found.append((kinds[0], re.fullmatch(ROWS[kinds[0]], row).groups()))
    kinds = "".join(kind for kind, groups in found)
    # Whatever begins a net's text is ended by nothing, by a room, or by a machine with a room.
    if not any(re.fullmatch(KINDS, kinds + more) for more in ("", "r", "mr")) or kinds.count("d") > 24:
        return False
    return names_fit(found) and all(row_fits(found[:place], *each) for place, each in enumerate(found))


def names_fit(found):
    names = [groups[0] for kind, groups in found if kind in "wbm"]
    rooms = [[]]
    for kind, groups in found:
        rooms += [[]] if kind == "m" else []
        rooms[-1] += [groups[0]] if kind == "r" else []
        if kind == "d" and not {groups[0], groups[1]} <= set(rooms[-1]):
            return False
    return all(len(set(each)) == len(each) for each in [names] + rooms)


def row_fits(ahead, kind, groups):
    watches = [each[0] for sort, each in ahead if sort == "w"]
    boxes = [each[0] for sort, each in ahead if sort == "b"]
    if kind == "b":
        low, high, start = (int(each) for each in groups[1:])
        return -20 <= low <= start <= high <= 20
    if kind == "r":
        return price_fits(groups[1]) and threes_fit(groups[3], ["<", "<="], [], watches, boxes, "stay")
    if kind == "d":
        return (price_fits(groups[4]) and threes_fit(groups[5], WATCH_SIGNS, BOX_SIGNS, watches, boxes, "when")
                and threes_fit(groups[6], ["="], ["=", "+", "-"], watches, boxes, "do"))
    return True


def price_fits(number):
    return number is None or 0 <= int(number) <= PRICE


def refused_row(text):
    """The row by which the text is refused as a net's, None where it is one."""
    rows = text.split("\n")
    for number in range(1, len(rows)):
        if not begins_net(rows[:number]):
            return number
    kinds = "".join(row[0] for row in rows[:-1])
    return None if rows[-1] == "" and re.fullmatch(KINDS, kinds) else len(rows)


def yard_of(text):
    """The yard that a net's text tells."""
    yard = {"watches": [], "boxes": [], "machines": []}
    for row in text.splitlines():
        kind = row[0]
        groups = re.fullmatch(ROWS[kind], row).groups()
        if kind == "w":
            yard["watches"].append(groups[0])
        if kind == "b":
            yard["boxes"].append((groups[0],) + tuple(int(number) for number in groups[1:]))
        if kind == "m":
            yard["machines"].append({"name": groups[0], "rooms": [], "doors": []})
        if kind == "r":
            yard["machines"][-1]["rooms"].append({
                "name": groups[0], "price": groups[1] and int(groups[1]), "hurry": groups[2] is not None,
                "stays": whole_threes(groups[3])})
        if kind == "d":
            words = row.split(" ")[3 + (groups[2] is not None):]
            yard["machines"][-1]["doors"].append({
                "start": groups[0], "goal": groups[1], "weather": groups[2] is not None,
                "word": groups[3] and (words[0], groups[3]), "price": groups[4] and int(groups[4]),
                "conds": whole_threes(groups[5]), "deeds": whole_threes(groups[6])})
    return yard


def text_of(rows):
    """A net's text, of rows with slashes between."""
    return rows.replace("/", "\n") + "\n"


def whole_threes(text):
    return [(name, sign, int(number)) for name, sign, number in threes_in(text)]


# Rows of acts.

def loosened(yard):
    """The yard with watches held against nothing: what rooms and boxes alone let be done in it."""
    told = copy.deepcopy(yard)
    for machine in told["machines"]:
        for room in machine["rooms"]:
            room["stays"] = []
        for door in machine["doors"]:
            door["conds"] = [three for three in door["conds"] if three[0] not in yard["watches"]]
    return told


def yard_stop(yard, acts):
    """The number of the first act that can't be done by rooms and boxes, None where there is none."""
    loose, state, known = loosened(yard), yard_start(yard), yard_acts(yard)
    for number, act in enumerate(acts):
        # A truth passes for a number where Python looks it up.
        if not isinstance(act, tuple) or any(type(each) is not int for each in act) or act not in known:
            return number
        state = yard_acted(loose, state, act)
        if state is None:
            return number
    return None


def yard_asked(yard, acts):
    """All tuples (i, j, number, strict) that are asked of the times of a row that rooms and boxes let be done."""
    loose, state, told = loosened(yard), yard_start(yard), []
    resets = {name: 0 for name in yard["watches"]}
    for late, act in enumerate(acts, start=1):
        doors = [yard_doors(yard)[number][1] for number in act]
        told.append((late - 1, late, 0, False))
        if any(room["hurry"] for room in yard_rooms(yard, state)):
            told.append((late, late - 1, 0, False))
        for each in [door["conds"] for door in doors] + [room["stays"] for room in yard_rooms(yard, state)]:
            told.extend(bounds_asked(each, resets, late))
        resets.update({name: late for door in doors for name, sign, number in door["deeds"] if name in resets})
        state = yard_acted(loose, state, act)
        for room in yard_rooms(yard, state):
            told.extend(bounds_asked(room["stays"], resets, late))
    return told


def bounds_asked(threes, resets, late):
    for name, sign, number in threes:
        if name in resets and sign != ">" and sign != ">=":
            yield (late, resets[name], number, sign == "<")
        if name in resets and sign != "<" and sign != "<=":
            yield (resets[name], late, -number, sign == ">")


def some_row(chance, yard, length):
    """A row of acts that rooms and boxes let be done, as far as it goes."""
    loose, state, told = loosened(yard), yard_start(yard), []
    while len(told) < length:
        free = [act for act in yard_acts(yard) if yard_acted(loose, state, act) is not None]
        if not free:
            return told
        told.append(chance.choice(free))
        state = yard_acted(loose, state, told[-1])
    return told


# Asks. An ask is a list of lists of threes (machine, "at", room), (watch, sign, number) and (box, sign, number).

def some_ask(chance, yard, most):
    told = []
    for unused in range(chance.choice([1, 1, 2, 3])):
        part = some_conds(chance, yard, most)
        for unused_either in range(chance.choice([0, 1, 1, 2]) if part else 1):
            machine = chance.choice(yard["machines"])
            part.append((machine["name"], "at", chance.choice(machine["rooms"])["name"]))
        chance.shuffle(part)
        told.append(part)
    return told


def ask_text(ask):
    return "; ".join(list_text(part) for part in ask)


def ask_of(text):
    """The ask as the reckoning has it."""
    told = []
    for part in text.split("; "):
        threes = [each.split(" ") for each in part.split(", ")]
        told.append([(name, sign, last if sign == "at" else int(last)) for name, sign, last in threes])
    return told


def yard_meets(yard, ask, state):
    names = dict(zip([machine["name"] for machine in yard["machines"]], state[0]))
    return any(
        all(names[three[0]] == three[2] for three in part if three[1] == "at")
        and yard_holds(yard, [three for three in part if three[1] != "at"], state) for part in ask)


def is_ask(yard, text):
    """Whether the text is an ask of the yard's, looked at by patterns."""
    three = f"(?:{NAME} at {NAME}|{THREE})"
    if not re.fullmatch(f"{three}((, |; ){three})*", text):
        return False
    rooms = {machine["name"]: [room["name"] for room in machine["rooms"]] for machine in yard["machines"]}
    boxes = [box[0] for box in yard["boxes"]]
    for each in re.split(", |; ", text):
        name, sign, last = each.split(" ")
        if sign == "at":
            fits = last in rooms.get(name, [])
        else:
            fits = threes_fit(each, WATCH_SIGNS, BOX_SIGNS, yard["watches"], boxes, "when")
        if not fits:
            return False
    return True


def yard_mosts(yard, asks):
    threes = [three for machine in yard["machines"] for room in machine["rooms"] for three in room["stays"]]
    threes += [three for machine, door in yard_doors(yard) for three in door["conds"]]
    threes += [three for ask in asks for part in ask for three in part]
    return [max([0] + [three[2] for three in threes if three[0] == name and three[1] != "at"])
            for name in yard["watches"]]


# Cells and spots.

def cell_reckoned(most, values):
    """The cell of what watches show, reckoned without the program."""
    below = [value for number, value in zip(most, values) if value <= number]
    parts = sorted({value - math.floor(value) for value in below} | {fractions.Fraction(0)})
    return tuple((number + 1, 0) if value > number else (math.floor(value), parts.index(value - math.floor(value)))
                 for number, value in zip(most, values))


def next_reckoned(most, values):
    """What the watches show a while later, at the first time that another cell has; None where none ever comes."""
    below = [value for number, value in zip(most, values) if value <= number]
    if not below:
        return None
    left = [math.floor(value) + 1 - value for value in below]
    if 1 in left:
        return tuple(value + min(left) / 2 for value in values)
    return tuple(value + min(left) for value in values)


def values_shown(state):
    return [fractions.Fraction(*time) for time in state[2]]


def pairs_of(values):
    made = [fractions.Fraction(value) for value in values]
    return tuple((value.numerator, value.denominator) for value in made)


def pair_of(value):
    return pairs_of([value])[0]


def yard_spot(most, state):
    return (state[0], state[1], cell_reckoned(most, values_shown(state)))


def some_state_in(chance, most, spot):
    """Any state of the spot, its broken parts and what lies beyond as they come."""
    parts = [fractions.Fraction(0)]
    parts += sorted(fractions.Fraction(each, 97) for each in chance.sample(range(1, 97), len(spot[2])))
    values = []
    for number, (whole, rank) in zip(most, spot[2]):
        past = fractions.Fraction(chance.choice([1, 8, 30, 60, 90, 1200]), 30)
        values.append(number + past if whole > number else whole + parts[rank])
    return (spot[0], spot[1], pairs_of(values))


def yard_later(yard, most, state):
    """The spot to which who waits at the state comes, None where to none."""
    values = values_shown(state)
    shown = next_reckoned(most, values)
    told = shown and yard_waited(yard, state, pair_of(shown[0] - values[0]))
    return yard_spot(most, told) if told else None


def yard_may_wait(yard, state):
    """Whether a wait above 0 may be done, tried with one so short that no whole number is come to."""
    gaps = [math.floor(value) + 1 - value for value in values_shown(state)]
    return yard_waited(yard, state, pair_of(min(gaps + [fractions.Fraction(1)]) / 2)) is not None


def yard_leads(yard, most, state):
    """All acts that may be done at the state, and the spots to which they lead."""
    behind = {act: yard_acted(yard, state, act) for act in yard_acts(yard)}
    return {act: yard_spot(most, told) for act, told in behind.items() if told is not None}


def yard_is_weather(yard, act):
    return any(yard_doors(yard)[number][1]["weather"] for number in act)


def small_yard(chance, most, weather=0.4):
    """A lively yard of few spots, with numbers of watches up to the one handed in."""
    yard = {"watches": ["x", "y", "z"][:chance.choice([0, 1, 1, 1, 2, 2, 2, 3])], "boxes": [], "machines": []}
    if chance.random() < 0.3:
        low = chance.randint(-2, 1)
        yard["boxes"].append(("b", low, low + chance.randint(1, 2), low))
    for name in ["m", "n"][:chance.choice([1, 1, 2])]:
        names = list("rstu"[:chance.randint(2, 4)])
        doors = [small_door(chance, yard, names, most, weather) for unused in range(chance.randint(2, 6))]
        rooms = [small_room(chance, yard, room, most) for room in names]
        yard["machines"].append({"name": name, "rooms": rooms, "doors": doors})
    return yard


def small_room(chance, yard, name, most):
    stays = []
    if yard["watches"] and chance.random() < 0.4:
        stays.append((chance.choice(yard["watches"]), chance.choice(["<", "<="]), chance.randint(1, most)))
    return {"name": name, "price": None, "hurry": chance.random() < 0.1, "stays": stays}


def small_door(chance, yard, rooms, most, weather):
    conds, deeds = [], []
    if yard["watches"] and chance.random() < 0.6:
        conds.append((chance.choice(yard["watches"]), chance.choice(WATCH_SIGNS), chance.randint(0, most)))
    if yard["watches"] and chance.random() < 0.5:
        deeds.append((chance.choice(yard["watches"]), "=", 0))
    if yard["boxes"] and chance.random() < 0.3:
        deeds.append(("b", chance.choice("+-"), 1))
    word = None
    if chance.random() < 0.3:
        word = (chance.choice(["say", "hear"]), chance.choice(["go", "go", "on"]))
    start = chance.choice(rooms)
    return {"start": start, "goal": chance.choice([room for room in rooms if room != start] + rooms),
            "weather": chance.random() < weather, "word": word, "price": None, "conds": conds, "deeds": deeds}


def small_ask(chance, yard, most):
    """An ask that seldom is met at the start."""
    told = []
    for unused in range(chance.choice([1, 1, 1, 2])):
        machine = chance.choice(yard["machines"])
        part = [(machine["name"], "at", chance.choice(machine["rooms"][1:])["name"])]
        if yard["watches"] and chance.random() < 0.5:
            watch = chance.choice(yard["watches"])
            part.append((watch, chance.choice(WATCH_SIGNS), chance.randint(0, most)))
            if chance.random() < 0.3:
                part[:] = [(watch, ">", chance.randint(0, most))]
        if yard["boxes"] and chance.random() < 0.3:
            part.append(("b", "!=", yard["boxes"][0][3]))
        told.append(part)
    return told


# What is told of spots, looked through entry by entry: lists of what is wrong. Who has looked at the yard's spots
# with these asks already may hand that in.

class Looked:
    """A yard's spots, each looked at by any state of it."""

    def __init__(self, yard, asks):
        self.yard = yard
        self.most = yard_mosts(yard, asks)
        self.start = yard_spot(self.most, yard_start(yard))
        self.chance = random.Random(1)
        self.seen = {}

    def at(self, spot):
        if spot not in self.seen:
            state = some_state_in(self.chance, self.most, spot)
            leads = yard_leads(self.yard, self.most, state)
            self.seen[spot] = {
                "state": state, "later": yard_later(self.yard, self.most, state),
                "waits": yard_may_wait(self.yard, state),
                "ours": {act: goal for act, goal in leads.items() if not yard_is_weather(self.yard, act)},
                "theirs": {act: goal for act, goal in leads.items() if yard_is_weather(self.yard, act)}}
        return self.seen[spot]

    def meets(self, ask, spot):
        return ask is not None and yard_meets(self.yard, ask, self.at(spot)["state"])


def order_faults(looked, spots):
    if any(one >= after for one, after in zip(spots, spots[1:])):
        yield "not rising"
    if looked.start not in spots:
        yield "without the start"


def book_faults(yard, ask, book, looked=None):
    looked = looked or Looked(yard, [ask])
    told = list(order_faults(looked, book))
    spots = dict.fromkeys(book)
    for spot in book:
        here = looked.at(spot)
        goals = list(here["ours"].values()) + list(here["theirs"].values()) + [here["later"]]
        told += [f"not closed at {spot}" for goal in goals if goal is not None and goal not in spots]
        told += [f"met at {spot}"] if looked.meets(ask, spot) else []
    return told


def plan_faults(yard, ask, shun, plan, looked=None):
    looked = looked or Looked(yard, [ask] + ([] if shun is None else [shun]))
    told = list(order_faults(looked, [spot for spot, rank, word in plan]))
    ranks = {spot: rank for spot, rank, word in plan}
    for spot, rank, word in plan:
        here = looked.at(spot)
        met = looked.meets(ask, spot)
        falls = {goal: ranks[goal] < rank for goal in ranks}
        if looked.meets(shun, spot) or type(rank) is not int or (rank == 0) != met or (word == ("met",)) != met:
            told.append(f"wrong rank at {spot}")
        if met:
            continue
        if rank < 1 or not all(falls.get(goal) for goal in here["theirs"].values()):
            told.append(f"rank doesn't fall at {spot}")
        fits = {"go": len(word) == 2 and falls.get(here["ours"].get(word[-1])),
                "wait": len(word) == 1 and falls.get(here["later"]),
                "yield": len(word) == 1 and not here["waits"] and len(here["theirs"]) > 0}.get(word[0])
        told += [] if fits else [f"wrong word at {spot}"]
    return told


def counter_faults(yard, ask, shun, counter, looked=None):
    looked = looked or Looked(yard, [ask] + ([] if shun is None else [shun]))
    told = list(order_faults(looked, [spot for spot, word in counter]))
    spots = dict(counter)
    for spot, word in counter:
        if looked.meets(shun, spot):
            told += [] if word == ("lost",) else [f"not lost at {spot}"]
            continue
        told += [f"met at {spot}"] if looked.meets(ask, spot) else []
        told += [] if keeps_from(looked, spots, spot, word) else [f"wrong word at {spot}"]
    return told


def keeps_from(looked, spots, spot, word):
    """Whether the word, not that of a lost spot, is right there in a counter-plan of these spots."""
    here = looked.at(spot)
    if word[0] == "cut":
        return len(word) == 2 and here["theirs"].get(word[1]) in spots
    goals = list(here["ours"].values()) + ([] if here["later"] is None else [here["later"]])
    return word == ("let",) and all(goal in spots for goal in goals) and (here["waits"] or not here["theirs"])
