"""Reading: a net's text, row by row, to a net; and the text that a net was read of."""

from watchyard.conds import WatchCond
from watchyard.errors import NoNet
from watchyard.nets import Door, Net, Room
from watchyard.wording import MOST_BOX, cond_of, is_name, number_of

MOST_WATCHES = 4
MOST_BOXES = 3
MOST_MACHINES = 4
MOST_ROOMS = 6
MOST_DOORS = 24
MOST_PRICE = 1_000_000_000_000_000_000_000_000_000_000


class Words:
    # A row's words, taken one by one. Whatever is wrong with them, the refusal is
    # the same: it names the row alone.
    def __init__(self, row, words):
        self.row = row
        self.words = words
        self.place = 0

    def insist(self, fits):
        if not fits:
            raise NoNet(self.row)

    def take(self):
        self.insist(self.place < len(self.words))
        self.place = self.place + 1
        return self.words[self.place - 1]

    def take_name(self):
        word = self.take()
        self.insist(is_name(word))
        return word

    def take_number(self, low, high):
        number = number_of(self.take(), low, high)
        self.insist(number is not None)
        return number

    def take_threes(self):
        told = []
        more = True
        while more:
            three = [self.take(), self.take(), self.take()]
            more = three[2].endswith(",")
            if more:
                three[2] = three[2][:-1]
            told.append(three)
        return told

    def takes(self, word):
        if self.place == len(self.words) or self.words[self.place] != word:
            return False
        self.place = self.place + 1
        return True

    def finish(self):
        self.insist(self.place == len(self.words))


class Draft:
    # What the rows so far have told of a net.
    def __init__(self):
        self.watch_names = []
        self.box_tuples = []
        self.machine_names = []
        self.room_lists = []
        self.door_list = []

    def box_names(self):
        return [box[0] for box in self.box_tuples]

    def room_names(self):
        return [room.name for room in self.room_lists[-1]]

    def has_room(self):
        return len(self.room_lists) > 0 and len(self.room_lists[-1]) > 0

    def has_door(self):
        # Of the last machine.
        return len(self.door_list) > 0 and self.door_list[-1].machine == len(self.machine_names) - 1


def read_net(text):
    if not isinstance(text, str):
        raise NoNet(1)
    rows = text.split("\n")
    draft = Draft()
    for number, row in enumerate(rows[:-1], start=1):
        add_row(draft, Words(number, row.split(" ")))
    # Behind the last line feed lies nothing, or a row that lacks its own one.
    if rows[-1] != "" or not draft.has_room():
        raise NoNet(len(rows))
    return Net(
        text, draft.watch_names, draft.box_tuples, draft.machine_names, draft.room_lists, draft.door_list)


def shown(net):
    return net.text


def add_row(draft, words):
    kind = words.take()
    if kind == "watch":
        add_watch(draft, words)
    elif kind == "box":
        add_box(draft, words)
    elif kind == "machine":
        add_machine(draft, words)
    elif kind == "room":
        add_room(draft, words)
    else:
        words.insist(kind == "door")
        add_door(draft, words)
    words.finish()


def add_watch(draft, words):
    words.insist(len(draft.box_tuples) == 0 and len(draft.machine_names) == 0)
    words.insist(len(draft.watch_names) < MOST_WATCHES)
    draft.watch_names.append(new_name(draft, words))


def add_box(draft, words):
    words.insist(len(draft.machine_names) == 0 and len(draft.box_tuples) < MOST_BOXES)
    name = new_name(draft, words)
    low = words.take_number(-MOST_BOX, MOST_BOX)
    high = words.take_number(low, MOST_BOX)
    draft.box_tuples.append((name, low, high, words.take_number(low, high)))


def add_machine(draft, words):
    words.insist(len(draft.machine_names) == 0 or draft.has_room())
    words.insist(len(draft.machine_names) < MOST_MACHINES)
    draft.machine_names.append(new_name(draft, words))
    draft.room_lists.append([])


def new_name(draft, words):
    name = words.take_name()
    words.insist(name not in draft.watch_names + draft.box_names() + draft.machine_names)
    return name


def add_room(draft, words):
    words.insist(len(draft.machine_names) > 0 and not draft.has_door())
    words.insist(len(draft.room_lists[-1]) < MOST_ROOMS)
    name = words.take_name()
    words.insist(name not in draft.room_names())
    price = taken_price(words)
    hurry = words.takes("hurry")
    stays = taken_conds(draft, words) if words.takes("stay") else []
    words.insist(all([may_stay(cond) for cond in stays]))
    draft.room_lists[-1].append(Room(name, price, hurry, stays))


def may_stay(cond):
    # Below 0 no watch can be: such a stay would hold nowhere.
    if not isinstance(cond, WatchCond):
        return False
    return cond.sign == "<=" or (cond.sign == "<" and cond.against > 0)


def add_door(draft, words):
    words.insist(draft.has_room() and len(draft.door_list) < MOST_DOORS)
    start = taken_room(draft, words)
    goal = taken_room(draft, words)
    weather = words.takes("weather")
    word = taken_word(words)
    price = taken_price(words)
    conds = taken_conds(draft, words) if words.takes("when") else []
    threes = words.take_threes() if words.takes("do") else []
    resets = resets_of(draft, words, threes)
    deeds = deeds_of(draft, words, threes)
    machine = len(draft.machine_names) - 1
    draft.door_list.append(Door(machine, start, goal, weather, word, price, conds, resets, deeds))


def taken_room(draft, words):
    name = words.take()
    words.insist(name in draft.room_names())
    return name


def taken_word(words):
    if words.takes("say"):
        return ("say", words.take_name())
    if words.takes("hear"):
        return ("hear", words.take_name())
    return None


def taken_price(words):
    return words.take_number(0, MOST_PRICE) if words.takes("price") else 0


def taken_conds(draft, words):
    told = [cond_of(draft.watch_names, draft.box_names(), three) for three in words.take_threes()]
    words.insist(None not in told)
    return told


def resets_of(draft, words, threes):
    told = []
    for three in threes:
        if three[0] in draft.watch_names:
            words.insist(three[1:] == ["=", "0"])
            told.append(draft.watch_names.index(three[0]))
    return sorted(set(told))


def deeds_of(draft, words, threes):
    boxes = draft.box_names()
    told = []
    for three in threes:
        if three[0] not in draft.watch_names:
            words.insist(three[0] in boxes and three[1] in ("=", "+", "-"))
            number = number_of(three[2], -MOST_BOX if three[1] == "=" else 1, MOST_BOX)
            words.insist(number is not None)
            told.append((boxes.index(three[0]), three[1], number))
    return told
