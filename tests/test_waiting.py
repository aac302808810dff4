import unittest

from latticeworks.waiting import Waiting
from tests.helper import source


class TakenInOrder(unittest.TestCase):
    def test_the_least_first(self):
        chance = source(1)
        for many in list(range(20)) + [1000]:
            waiting = Waiting()
            things = [(chance.randint(-9, 9), chance.randint(0, 3)) for k in range(many)]
            for thing in things:
                waiting.put(thing)
            taken = []
            while not waiting.is_empty():
                taken.append(waiting.take_least())
            self.assertEqual(taken, sorted(things))

    def test_put_between(self):
        chance = source(2)
        waiting = Waiting()
        kept = []
        for trial in range(3000):
            if kept and chance.randrange(3) == 0:
                self.assertEqual(waiting.take_least(), min(kept))
                kept.remove(min(kept))
            else:
                kept.append(chance.randint(0, 500))
                waiting.put(kept[-1])
            self.assertIs(waiting.is_empty(), not kept)


if __name__ == "__main__":
    unittest.main()
