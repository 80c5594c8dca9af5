"""What waits in a search leaves in ascending order of its size."""

import random
import unittest

from partstold.waiting import Waiting


class Leaving(unittest.TestCase):
    def test_none(self):
        self.assertTrue(Waiting().is_empty())

    def test_things_of_one_size_leave_together_in_their_order(self):
        waiting = Waiting()
        for size, thing in [(5, "a"), (3, "b"), (5, "c"), (3, "d"), (4, "e")]:
            waiting.wait(size, thing)
        self.assertFalse(waiting.is_empty())
        self.assertEqual([waiting.leave(), waiting.leave(), waiting.leave()], [(3, ["b", "d"]), (4, ["e"]), (5, ["a", "c"])])
        self.assertTrue(waiting.is_empty())

    def test_drawn_sizes(self):
        for seed in range(200):
            chance = random.Random(seed)
            waiting, kept = Waiting(), {}
            for step in range(300):
                if kept and chance.random() < 0.45:
                    size = min(kept)
                    self.assertEqual(waiting.leave(), (size, kept.pop(size)))
                else:
                    size = chance.randrange(chance.choice([5, 50, 10 ** 12]))
                    kept.setdefault(size, []).append(step)
                    waiting.wait(size, step)
                self.assertEqual(waiting.is_empty(), not kept)


if __name__ == "__main__":
    unittest.main()
