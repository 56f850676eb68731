import random
import unittest

from watchyard.queues import Queue


class Queues(unittest.TestCase):
    def test_the_least_first(self):
        queue = Queue()
        self.assertTrue(queue.is_empty())
        for rank in (5, 3, 8, 3, -1, 5, 10 ** 40):
            queue.put(rank, f"a thing of {rank}")
        told = []
        while not queue.is_empty():
            told.append(queue.take())
        ranks = [-1, 3, 5, 8, 10 ** 40]
        self.assertEqual(told, [[f"a thing of {rank}"] * (2 if rank in (3, 5) else 1) for rank in ranks])

    def test_in_the_order_in_which_they_came(self):
        queue = Queue()
        for thing in "bca":
            queue.put((0, 0), thing)
        self.assertEqual(queue.take(), ["b", "c", "a"])
        self.assertTrue(queue.is_empty())

    def test_any(self):
        chance = random.Random(1)
        for unused in range(60):
            queue, kept = Queue(), {}
            for number in range(chance.randint(1, 120)):
                if kept and chance.random() < 0.3:
                    least = min(kept)
                    self.assertEqual(queue.take(), kept.pop(least))
                rank = (chance.randint(0, 9), chance.randint(0, 9))
                queue.put(rank, number)
                kept.setdefault(rank, []).append(number)
            while kept:
                self.assertFalse(queue.is_empty())
                self.assertEqual(queue.take(), kept.pop(min(kept)))
            self.assertTrue(queue.is_empty())


if __name__ == "__main__":
    unittest.main()
