import inspect
import operator
import unittest

from watchyard import conds as own
from watchyard.conds import BoxCond, Cond, WatchCond

SIXTY = 10 ** 60 - 1
WATCH_SIGNS = {"<": operator.lt, "<=": operator.le, "==": operator.eq, ">=": operator.ge, ">": operator.gt}
BOX_SIGNS = dict(WATCH_SIGNS)
BOX_SIGNS["!="] = operator.ne


def times_about(number):
    """Fractions with whether they are below (-1), at (0) or above (1) the number."""
    told = [((number, 1), 0), ((number - 1, 1), -1), ((number + 1, 1), 1), ((number - SIXTY, 1), -1)]
    for bottom in (2, 3, SIXTY):
        told = told + [((number * bottom - 1, bottom), -1), ((number * bottom + 1, bottom), 1)]
    return told


class Watches(unittest.TestCase):
    def test_each_sign(self):
        for sign, compared in WATCH_SIGNS.items():
            for against in (0, 1, 2, 59, 60, SIXTY):
                for time, side in times_about(against):
                    cond = WatchCond(0, sign, against)
                    self.assertIs(cond.holds((), (time,)), compared(side, 0), (sign, against, time))

    def test_plain_ones(self):
        told = {"<": [True, False, False], "<=": [True, True, False], "==": [False, True, False],
                ">=": [False, True, True], ">": [False, False, True]}
        for sign, expected in told.items():
            cond = WatchCond(1, sign, 3)
            times = [((9, 1), (5, 2)), ((9, 1), (3, 1)), ((9, 1), (7, 2))]
            self.assertEqual([cond.holds((7,), each) for each in times], expected, sign)

    def test_the_watch_of_its_number(self):
        times = ((1, 2), (3, 1), (7, 2), (60, 1))
        for number in range(4):
            holds = [WatchCond(number, "<", against).holds((0, 0, 0), times) for against in (1, 2, 3, 4, 60, 61)]
            self.assertEqual(holds, [[True] * 6, [False] * 3 + [True] * 3, [False] * 3 + [True] * 3,
                                     [False] * 5 + [True]][number])

    def test_boxes_are_nothing_to_it(self):
        for boxes in [(), (0,), (5, -5, 20)]:
            self.assertIs(WatchCond(0, "==", 5).holds(boxes, ((5, 1),)), True)
            self.assertIs(WatchCond(0, "==", 5).holds(boxes, ((4, 1),)), False)


class Boxes(unittest.TestCase):
    def test_each_sign(self):
        for sign, compared in BOX_SIGNS.items():
            for against in (-20, -1, 0, 1, 20, SIXTY, -SIXTY):
                for value in (against - SIXTY, against - 1, against, against + 1, against + SIXTY, -against):
                    cond = BoxCond(0, sign, against)
                    self.assertIs(cond.holds((value,), ()), compared(value, against), (sign, against, value))

    def test_plain_ones(self):
        told = {"<": [True, False, False], "<=": [True, True, False], "==": [False, True, False],
                "!=": [True, False, True], ">=": [False, True, True], ">": [False, False, True]}
        for sign, expected in told.items():
            cond = BoxCond(1, sign, -3)
            self.assertEqual([cond.holds((9, value), ((1, 2),)) for value in (-4, -3, -2)], expected, sign)

    def test_the_box_of_its_number(self):
        for number in range(3):
            cond = BoxCond(number, "==", 7)
            boxes = [tuple(7 if place == other else 0 for place in range(3)) for other in range(3)]
            self.assertEqual([cond.holds(each, ()) for each in boxes], [number == other for other in range(3)])

    def test_times_are_nothing_to_it(self):
        for times in [(), ((0, 1),), ((1, 2), (7, 3))]:
            self.assertIs(BoxCond(0, "!=", 5).holds((5,), times), False)
            self.assertIs(BoxCond(0, "!=", 5).holds((4,), times), True)


class Kinds(unittest.TestCase):
    def test_both_stand_under_cond(self):
        for kind in (WatchCond, BoxCond):
            self.assertTrue(issubclass(kind, Cond))
            self.assertIsNot(kind, Cond)
        self.assertFalse(issubclass(WatchCond, BoxCond) or issubclass(BoxCond, WatchCond))

    def test_values(self):
        for kind, signs in ((WatchCond, WATCH_SIGNS), (BoxCond, BOX_SIGNS)):
            for sign in signs:
                cond = kind(2, sign, 17)
                self.assertEqual((cond.number, cond.sign, cond.against), (2, sign, 17))
                named = kind(number=1, sign=sign, against=0)
                self.assertEqual((named.number, named.sign, named.against), (1, sign, 0))

    def test_values_belong_to_their_object(self):
        first, second = WatchCond(0, "<", 5), WatchCond(1, ">=", 6)
        self.assertEqual((first.number, first.sign, first.against), (0, "<", 5))
        self.assertEqual((second.number, second.sign, second.against), (1, ">=", 6))

    def test_asked_again_the_same_is_told(self):
        cond = WatchCond(0, "<", 1)
        for unused in range(3):
            self.assertIs(cond.holds((), ((1, 2),)), True)
            self.assertIs(cond.holds((), ((1, 1),)), False)
        self.assertEqual((cond.number, cond.sign, cond.against), (0, "<", 1))


class Interface(unittest.TestCase):
    def test_names_and_arguments(self):
        for name in ("WatchCond", "BoxCond"):
            kind = getattr(own, name)
            self.assertEqual(str(inspect.signature(kind)), "(number, sign, against)", name)
            self.assertEqual(str(inspect.signature(kind.holds)), "(self, boxes, times)", name)


if __name__ == "__main__":
    unittest.main()
