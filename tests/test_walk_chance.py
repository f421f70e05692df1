"""Points 16 to 20 over programs drawn by chance, held against their second writing."""

import random
import sys
import unittest

from deedwright.checks import check
from deedwright.walk import begun, gone_on, run
from helper import LIVELY, Maker, second_run


class Chance(unittest.TestCase):
    def setUp(self):
        # The second writing goes as deep as the runs do.
        self.limit = sys.getrecursionlimit()
        sys.setrecursionlimit(50000)

    def tearDown(self):
        sys.setrecursionlimit(self.limit)

    def agrees(self, program, f, chance):
        """Runs a function once, and gives how that ended."""
        params = [item for item in program if item[1] == f][0][2]
        numbers = [chance.choice((-3, 0, 1, 2, 10**18)) for param in params]
        answers = [chance.choice((-1, 0, 1, 5)) for count in range(chance.randrange(6))]
        turns = chance.choice((0, 1, 3, 20, 60, 200, 200))
        with self.subTest(program=program, f=f, numbers=numbers, answers=answers, turns=turns):
            told = run(program, f, list(numbers), list(answers), turns)
            self.assertEqual(told, second_run(program, f, numbers, answers, turns))
            self.goes_on(program, f, numbers, answers, turns)
        return told

    def goes_on(self, program, f, numbers, answers, turns):
        halt = begun(program, f, list(numbers), turns)
        for count in range(len(answers) + 1):
            if count > 0:
                # Another answer first, which must change nothing.
                gone_on(halt, answers[count - 1] + 7)
                halt = gone_on(halt, answers[count - 1])
            whole = run(program, f, list(numbers), list(answers[:count]), turns)
            self.assertEqual((halt.end, halt.record, halt.used), whole)
            if halt.end[0] != "asks":
                break

    def test_any_programs(self):
        ends = {}
        for seed in range(400):
            chance = random.Random(seed)
            program = Maker(seed, depth=3 + seed % 3, blocks=seed % 2 == 0).program()
            for f in [item[1] for item in program if item[0] == "def" and item[3] is None]:
                end = self.agrees(program, f, chance)[0][0]
                ends[end] = ends.get(end, 0) + 1
        self.assertGreater(min(ends[end] for end in ("done", "asks", "spent", "great")), 20)

    def test_lively_programs(self):
        ends, cleaned_twice = {}, 0
        for seed in range(800):
            chance = random.Random(seed)
            maker = Maker(seed, depth=3 + seed % 4, blocks=seed % 2 == 0, kinds=LIVELY, answers=0.8, goes=10)
            program = maker.handled()
            self.assertIsNone(check(program))
            end, record, used = self.agrees(program, "m", chance)
            words = [row[0] for row in record]
            cleaned_twice += words.count("clean") > words.count("guard")
            ends[end[0]] = ends.get(end[0], 0) + 1
        self.assertGreater(min(ends[end] for end in ("done", "asks", "spent", "great")), 50)
        self.assertGreater(cleaned_twice, 10)


if __name__ == "__main__":
    unittest.main()
