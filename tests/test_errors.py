import copy
import pickle
import unittest

from watchyard.errors import NoAct, NoAsk, NoFraction, NoMove, NoNet, NoPoint, NoWait, WatchError

OF_TEXT = (NoFraction, NoPoint, NoAsk)
OF_AT = (NoWait, NoAct, NoMove)
REFUSALS = OF_TEXT + OF_AT + (NoNet,)


class Places(unittest.TestCase):
    def test_watch_error_stands_straight_under_value_error(self):
        self.assertEqual(WatchError.__bases__, (ValueError,))

    def test_each_refusal_stands_straight_under_watch_error(self):
        for refusal in REFUSALS:
            self.assertEqual(refusal.__bases__, (WatchError,), refusal)

    def test_none_stands_under_another(self):
        for one in REFUSALS:
            for other in REFUSALS:
                self.assertEqual(issubclass(one, other), one is other, (one, other))

    def test_there_are_seven_unlike_ones_with_their_names(self):
        names = [refusal.__name__ for refusal in REFUSALS]
        self.assertEqual(names, ["NoFraction", "NoPoint", "NoAsk", "NoWait", "NoAct", "NoMove", "NoNet"])


class Values(unittest.TestCase):
    def test_those_of_a_text_are_made_and_shown(self):
        for refusal in OF_TEXT:
            for text in ("", "why it is so"):
                self.assertEqual(str(refusal(text)), text)

    def test_those_of_a_text_are_taken_as_any_refusal(self):
        for refusal in OF_TEXT:
            with self.assertRaises(WatchError) as caught:
                raise refusal("why")
            self.assertIsInstance(caught.exception, refusal)

    def test_row(self):
        for row in (0, 1, 7, 10 ** 60):
            self.assertEqual(NoNet(row).row, row)
            self.assertEqual(NoNet(row=row).row, row)

    def test_at(self):
        for refusal in OF_AT:
            for at in (0, 1, 199, 10 ** 60):
                self.assertEqual(refusal(at).at, at)
                self.assertEqual(refusal(at=at).at, at)

    def test_a_value_belongs_to_its_object(self):
        first, second = NoAct(1), NoAct(2)
        self.assertEqual((first.at, second.at), (1, 2))

    def test_only_the_value_told_is_there(self):
        self.assertFalse(hasattr(NoNet(1), "at"))
        for refusal in OF_AT:
            self.assertFalse(hasattr(refusal(1), "row"))

    def test_values_are_there_when_it_is_taken(self):
        for refusal in OF_AT:
            with self.assertRaises(ValueError) as caught:
                raise refusal(3)
            self.assertEqual(caught.exception.at, 3)
        with self.assertRaises(ValueError) as caught:
            raise NoNet(4)
        self.assertEqual(caught.exception.row, 4)

    def test_a_copy_has_the_value_too(self):
        for made in (copy.copy(NoNet(5)), pickle.loads(pickle.dumps(NoNet(5)))):
            self.assertEqual(made.row, 5)
        for refusal in OF_AT:
            for made in (copy.copy(refusal(5)), pickle.loads(pickle.dumps(refusal(5)))):
                self.assertEqual(made.at, 5)


if __name__ == "__main__":
    unittest.main()
