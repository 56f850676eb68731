"""Beside: two nets that have nothing to do with one another, as one net."""

from watchyard.errors import NoNet
from watchyard.reading import read_net, shown


def beside(one, other):
    if len(set(words_of(one)) & set(words_of(other))) > 0:
        raise NoNet(0)
    # Whatever else keeps both from being one net, its text tells: it isn't read then.
    try:
        return read_net(text_of_both(one, other))
    except NoNet:
        raise NoNet(0) from None


def words_of(net):
    return [door.word[1] for door in net.doors() if door.word is not None]


def text_of_both(one, other):
    rows = []
    for first, second in zip(rows_by_sort(one), rows_by_sort(other)):
        rows.extend(first + second)
    return "\n".join(rows + [""])


def rows_by_sort(net):
    # Those of the watches, of the boxes, of the machines.
    rows = shown(net).split("\n")[:-1]
    watches = len(net.watches())
    boxes = len(net.boxes())
    return (rows[:watches], rows[watches:watches + boxes], rows[watches + boxes:])
