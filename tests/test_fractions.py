import random
import unittest
from fractions import Fraction

from support import (GREATEST, LEAST, LIVES, NET, TOLD, YEARS, ask_of, fate, pair, random_herd, random_life, value,
                     value_of, worth, worth_of, years_of)


class Net(unittest.TestCase):
    def test_ordinary(self):
        # 1/2 + 3/2 * 1/2 = 5/4
        self.assertEqual(ask_of((2, [1, 3], [1]), NET), [[5, 4]])

    def test_lowest_terms(self):
        self.assertEqual(ask_of((20, [10], []), NET), [[1, 2]])
        self.assertEqual(ask_of((20, [1000], []), NET), [[50, 1]])
        self.assertEqual(ask_of((6, [2, 4], [3]), NET), [[2, 3]])

    def test_nothing(self):
        self.assertEqual(ask_of((20, [0], []), NET), [[0, 1]])
        self.assertEqual(ask_of((20, [0] * 8, [20] * 7), NET), [[0, 1]])
        self.assertEqual(ask_of((20, [0, 1000], [0]), NET), [[0, 1]])

    def test_greatest(self):
        self.assertEqual(ask_of((1, [1000] * 8, [1] * 7), NET), [[8000, 1]])
        self.assertEqual(ask_of((20, [0] * 7 + [1], [1] * 7), NET), [[1, 20 ** 8]])

    def test_stay_of_nothing_cuts_off(self):
        self.assertEqual(ask_of((4, [2, 0, 6], [0, 4]), NET), [[1, 2]])


class Value(unittest.TestCase):
    def test_ordinary(self):
        self.assertEqual(ask_of((2, [1, 3], [1]), value(0), value(1)), [[5, 4], [3, 2]])

    def test_behind_a_stay_of_nothing(self):
        self.assertEqual(ask_of((4, [2, 0, 6], [0, 4]), value(0), value(1), value(2)), [[1, 2], [3, 2], [3, 2]])

    def test_nothing(self):
        self.assertEqual(ask_of((9, [5, 0], [9]), value(1)), [[0, 1]])

    def test_one_age(self):
        self.assertEqual(ask_of((4, [6], []), value(0), value(1), value(-1)), [[3, 2], [-3], [-3]])

    def test_range(self):
        for ages in range(1, 9):
            a_life = (1, [1] * ages, [1] * (ages - 1))
            self.assertEqual(ask_of(a_life, value(0), value(ages - 1)), [[ages, 1], [1, 1]])
            for i in (-1, ages, 8, LEAST, GREATEST):
                told = [0, 1, ages] + [1] * (2 * ages - 1)
                self.assertEqual(ask_of(a_life, value(i), TOLD), [[-3], told])


class Worth(unittest.TestCase):
    def test_ordinary(self):
        # 2 * 5/4 + 3 * 3/2 = 7
        self.assertEqual(ask_of((2, [1, 3], [1]), worth([2, 3]), worth([1, 0]), worth([0, 1])),
                         [[7, 1], [5, 4], [3, 2]])

    def test_nothing(self):
        self.assertEqual(ask_of((9, [5, 0], [9]), worth([0, 0]), worth([0, 10000])), [[0, 1], [0, 1]])

    def test_greatest(self):
        self.assertEqual(ask_of((1, [1000] * 8, [1] * 7), worth([10000] * 8)), [[360000000, 1]])


class Years(unittest.TestCase):
    def test_ordinary(self):
        # 1 + 1/2 + 1/2 * 1/4
        self.assertEqual(ask_of((4, [0, 0, 0], [2, 1]), YEARS), [[13, 8]])

    def test_edges(self):
        self.assertEqual(ask_of((20, [7], []), YEARS), [[1, 1]])
        self.assertEqual(ask_of((20, [7] * 8, [20] * 7), YEARS), [[8, 1]])
        self.assertEqual(ask_of((20, [7] * 8, [0] * 7), YEARS), [[1, 1]])
        self.assertEqual(ask_of((20, [7] * 4, [20, 0, 20]), YEARS), [[2, 1]])

    def test_births_do_not_matter(self):
        self.assertEqual(ask_of((2, [0, 0], [1]), YEARS), ask_of((2, [1000, 3], [1]), YEARS))


class OtherReckoning(unittest.TestCase):
    def test_all_fractions(self):
        source = random.Random(21)
        for a_life in LIVES + [random_life(source) for _ in range(300)]:
            x = random_herd(source, a_life)
            ages = len(a_life[1])
            split = ask_of(a_life, NET, YEARS, worth(x), *[value(i) for i in range(ages)])
            self.assertEqual(split[0], pair(value_of(a_life, 0)), a_life)
            self.assertEqual(split[1], pair(years_of(a_life)), a_life)
            self.assertEqual(split[2], pair(worth_of(a_life, x)), (a_life, x))
            self.assertEqual(split[3:], [pair(value_of(a_life, i)) for i in range(ages)], a_life)


class Fate(unittest.TestCase):
    def test_below_at_and_above(self):
        self.assertEqual(ask_of((3, [0, 8], [1]), NET, fate([1, 1])), [[8, 9], [0]])
        self.assertEqual(ask_of((3, [0, 9], [1]), NET, fate([1, 1])), [[1, 1], [1]])
        self.assertEqual(ask_of((3, [0, 10], [1]), NET, fate([1, 1])), [[10, 9], [2]])

    def test_one_age(self):
        for births, expected in ((0, 0), (19, 0), (20, 1), (21, 2), (1000, 2)):
            self.assertEqual(ask_of((20, [births], []), fate([1]), fate([0])), [[expected], [0]])

    def test_herd_without_births_to_come(self):
        for births in ([1, 0], [9, 0], [1000, 0]):
            self.assertEqual(ask_of((9, births, [9]), fate([0, 5]), fate([0, 0])), [[0], [0]])
        self.assertEqual(ask_of((1, [0, 2, 0], [1, 1]), fate([0, 0, 9]), fate([0, 1, 9]), fate([1, 0, 0])),
                         [[0], [2], [2]])

    def test_births_to_come_behind_a_stay_of_nothing(self):
        # The old bear children that live as any newborn: R alone tells what comes of them.
        self.assertEqual(ask_of((1, [0, 1], [0]), fate([0, 1])), [[0]])
        self.assertEqual(ask_of((1, [1, 1], [0]), fate([0, 1])), [[1]])
        self.assertEqual(ask_of((1, [2, 1], [0]), fate([0, 1])), [[2]])

    def test_smallest_step_round_one(self):
        d = 20
        births = [19, 0, 0, 0, 0, 0, 0, 20]
        self.assertEqual(ask_of((d, births, [20, 20, 20, 20, 20, 20, 1]), NET, fate([1] + [0] * 7)), [[1, 1], [1]])
        births[7] = 19
        self.assertEqual(ask_of((d, births, [20, 20, 20, 20, 20, 20, 1]), NET, fate([1] + [0] * 7)),
                         [[399, 400], [0]])
        births[7] = 21
        self.assertEqual(ask_of((d, births, [20, 20, 20, 20, 20, 20, 1]), NET, fate([1] + [0] * 7)),
                         [[401, 400], [2]])

    def test_other_reckoning(self):
        source = random.Random(22)
        seen = {0: 0, 1: 0, 2: 0}
        for a_life in LIVES + [random_life(source) for _ in range(300)]:
            x = random_herd(source, a_life)
            net = value_of(a_life, 0)
            expected = 0 if worth_of(a_life, x) == 0 or net < 1 else 1 if net == 1 else 2
            seen[expected] += 1
            self.assertEqual(ask_of(a_life, fate(x)), [[expected]], (a_life, x))
        self.assertTrue(all(seen.values()), seen)


class Refused(unittest.TestCase):
    def test_herds(self):
        a_life = (2, [1, 3], [1])
        herds = [[], [1], [1, 1, 1], [1] * 8, [0] * 30]
        herds += [[n, 1] for n in (-1, 10001, LEAST, GREATEST)]
        herds += [[1, n] for n in (-1, 10001, LEAST, GREATEST)]
        for x in herds:
            split = ask_of(a_life, fate(x), worth(x), TOLD)
            self.assertEqual(split, [[-4], [-4], [0, 2, 2, 1, 3, 1]], x)

    def test_edges_are_taken(self):
        net = Fraction(5, 4)
        self.assertEqual(ask_of((2, [1, 3], [1]), worth([10000, 0]), fate([10000, 0]), fate([0, 10000])),
                         [pair(net * 10000), [2], [2]])

    def test_eight_ages(self):
        a_life = (2, [1] * 8, [1] * 7)
        for many in (0, 1, 7, 9, 30):
            self.assertEqual(ask_of(a_life, fate([1] * many), worth([1] * many)), [[-4], [-4]])
        self.assertEqual(ask_of(a_life, fate([0] * 7 + [10001]), worth([0] * 7 + [-1])), [[-4], [-4]])


if __name__ == "__main__":
    unittest.main()
