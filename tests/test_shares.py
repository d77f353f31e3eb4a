import random
import unittest
from fractions import Fraction

from support import (AGE, GREATEST, LEAST, LIVES, NET, TOLD, YEARS, ask, ask_of, leaned, life, pair, random_life,
                     random_steady_life, reached, reached_of, share_at, shares_of)

# R is 1/2 + 3/2 * 1/2 = 5/4.
TWO = (2, [1, 3], [1])

# No births, or births that none comes to.
BARREN = [
    (1, [0], []),
    (20, [0] * 8, [20] * 7),
    (20, [0] * 8, [0] * 7),
    (3, [0, 5], [0]),
    (4, [0, 0, 1000, 1000], [4, 0, 4]),
]


def many_lives(seed):
    source = random.Random(seed)
    steady = [random_steady_life(source, ages) for ages in range(1, 9)]
    return LIVES + BARREN + steady + [random_life(source) for _ in range(200)]


class Share(unittest.TestCase):
    def test_ordinary(self):
        self.assertEqual(ask_of(TWO, share_at(0), share_at(1)), [[2, 5], [3, 5]])

    def test_three_ages(self):
        # 1/4 + 2/4 * 2/4 + 8/4 * 2/4 * 1/4 = 1/4 + 1/4 + 1/4
        a_life = (4, [1, 2, 8], [2, 1])
        self.assertEqual(ask_of(a_life, share_at(0), share_at(1), share_at(2)), [[1, 3]] * 3)

    def test_one_age(self):
        self.assertEqual(ask_of((20, [7], []), share_at(0), share_at(1), share_at(-1)), [[1, 1], [-3], [-3]])

    def test_nothing(self):
        self.assertEqual(ask_of((2, [0, 3], [1]), share_at(0), share_at(1)), [[0, 1], [1, 1]])
        self.assertEqual(ask_of((4, [2, 0, 6], [0, 4]), share_at(0), share_at(1), share_at(2)),
                         [[1, 1], [0, 1], [0, 1]])

    def test_lowest_terms(self):
        self.assertEqual(ask_of((20, [100] * 8, [20] * 7), share_at(0), share_at(7)), [[1, 8], [1, 8]])
        self.assertEqual(ask_of((20, [1] + [0] * 6 + [1], [1] * 7), share_at(0), share_at(7)),
                         [[20 ** 7, 20 ** 7 + 1], [1, 20 ** 7 + 1]])

    def test_range(self):
        for ages in range(1, 9):
            a_life = (1, [1] * ages, [1] * (ages - 1))
            told = [0, 1, ages] + [1] * (2 * ages - 1)
            self.assertEqual(ask_of(a_life, share_at(0), share_at(ages - 1)), [[1, ages], [1, ages]])
            for i in (-1, ages, LEAST, GREATEST):
                self.assertEqual(ask_of(a_life, share_at(i), TOLD), [[-3], told])

    def test_shares_make_one(self):
        for a_life in many_lives(51):
            ages = len(a_life[1])
            split = ask_of(a_life, *[share_at(i) for i in range(ages)])
            if ask_of(a_life, NET) == [[0, 1]]:
                self.assertEqual(split, [[-6]] * ages, a_life)
            else:
                self.assertEqual(sum(Fraction(*told) for told in split), 1, a_life)


class Leaned(unittest.TestCase):
    def test_ordinary(self):
        self.assertEqual(ask_of(TWO, leaned(0)), [[3, 5]])
        self.assertEqual(ask_of((4, [1, 2, 8], [2, 1]), leaned(0), leaned(1)), [[2, 3], [1, 3]])

    def test_one_age_has_none(self):
        for a_life in ((20, [7], []), (20, [0], [])):
            for j in (0, -1, 1, LEAST, GREATEST):
                self.assertEqual(ask_of(a_life, leaned(j)), [[-3]])

    def test_nothing_and_all(self):
        self.assertEqual(ask_of((2, [3, 0], [1]), leaned(0)), [[0, 1]])
        self.assertEqual(ask_of((2, [0, 3], [1]), leaned(0)), [[1, 1]])
        self.assertEqual(ask_of((4, [2, 0, 6], [0, 4]), leaned(0), leaned(1)), [[0, 1], [0, 1]])
        self.assertEqual(ask_of((20, [0] * 7 + [1], [1] * 7), leaned(0), leaned(6)), [[1, 1], [1, 1]])

    def test_range(self):
        for ages in range(2, 9):
            a_life = (1, [1] * ages, [1] * (ages - 1))
            told = [0, 1, ages] + [1] * (2 * ages - 1)
            self.assertEqual(ask_of(a_life, leaned(0), leaned(ages - 2)), [[ages - 1, ages], [1, ages]])
            for j in (-1, ages - 1, ages, LEAST, GREATEST):
                self.assertEqual(ask_of(a_life, leaned(j), TOLD), [[-3], told])

    def test_sum_of_the_shares_above(self):
        for a_life in many_lives(52):
            if shares_of(a_life) is None:
                continue
            ages = len(a_life[1])
            shares = [Fraction(*told) for told in ask_of(a_life, *[share_at(i) for i in range(ages)])]
            for j in range(ages - 1):
                self.assertEqual(ask_of(a_life, leaned(j)), [pair(sum(shares[j + 1:]))], (a_life, j))


class Age(unittest.TestCase):
    def test_ordinary(self):
        # 1 * 2/5 + 2 * 3/5
        self.assertEqual(ask_of(TWO, AGE), [[8, 5]])
        self.assertEqual(ask_of((4, [1, 2, 8], [2, 1]), AGE), [[2, 1]])

    def test_one_age(self):
        self.assertEqual(ask_of((20, [7], []), AGE), [[1, 1]])

    def test_one_age_bears(self):
        for i in range(8):
            births = [0] * 8
            births[i] = 3
            self.assertEqual(ask_of((20, births, [19] * 7), AGE), [[i + 1, 1]])

    def test_all_alike(self):
        self.assertEqual(ask_of((20, [1000] * 8, [20] * 7), AGE), [[9, 2]])

    def test_births_that_none_comes_to(self):
        self.assertEqual(ask_of((4, [2, 0, 1000], [4, 0]), AGE), [[1, 1]])


class Reached(unittest.TestCase):
    def test_ordinary(self):
        self.assertEqual(ask_of((5, [0, 0, 0], [4, 3]), reached(0), reached(1), reached(2)), [[1, 1], [4, 5], [12, 25]])

    def test_age_nought(self):
        for a_life in LIVES:
            self.assertEqual(ask_of(a_life, reached(0)), [[1, 1]])

    def test_lowest_terms(self):
        self.assertEqual(ask_of((20, [1] * 3, [10, 8]), reached(1), reached(2)), [[1, 2], [1, 5]])
        self.assertEqual(ask_of((20, [1] * 8, [20] * 7), reached(7)), [[1, 1]])
        self.assertEqual(ask_of((20, [1] * 8, [1] * 7), reached(7)), [[1, 20 ** 7]])
        self.assertEqual(ask_of((20, [1] * 8, [19] * 7), reached(7)), [[19 ** 7, 20 ** 7]])

    def test_nothing_from_a_stay_of_nothing_on(self):
        self.assertEqual(ask_of((6, [1] * 5, [3, 6, 0, 6]), *[reached(i) for i in range(5)]),
                         [[1, 1], [1, 2], [1, 2], [0, 1], [0, 1]])

    def test_births_do_not_matter(self):
        self.assertEqual(ask_of((6, [0, 0], [4]), reached(1)), ask_of((6, [9, 1000], [4]), reached(1)))

    def test_range(self):
        for ages in range(1, 9):
            a_life = (2, [0] * ages, [1] * (ages - 1))
            told = [0, 2, ages] + [0] * ages + [1] * (ages - 1)
            self.assertEqual(ask_of(a_life, reached(0), reached(ages - 1)), [[1, 1], [1, 2 ** (ages - 1)]])
            for i in (-1, ages, LEAST, GREATEST):
                self.assertEqual(ask_of(a_life, reached(i), TOLD), [[-3], told])

    def test_years_are_their_sum(self):
        for a_life in many_lives(53):
            split = ask_of(a_life, YEARS, *[reached(i) for i in range(len(a_life[1]))])
            self.assertEqual(split[0], pair(sum(Fraction(*told) for told in split[1:])), a_life)


class OtherReckoning(unittest.TestCase):
    def test_all_of_them(self):
        for a_life in many_lives(54):
            ages = range(len(a_life[1]))
            shares = shares_of(a_life)
            split = ask_of(a_life, AGE, *[share_at(i) for i in ages], *[reached(i) for i in ages])
            if shares is None:
                expected = [[-6]] * (1 + len(ages))
            else:
                expected = [pair(sum((i + 1) * part for i, part in enumerate(shares)))]
                expected += [pair(part) for part in shares]
            expected += [pair(reached_of(a_life, i)) for i in ages]
            self.assertEqual(split, expected, a_life)


class NoBirthsToCome(unittest.TestCase):
    def test_refused(self):
        for a_life in BARREN:
            ages = len(a_life[1])
            calls = [AGE] + [share_at(i) for i in range(ages)] + [leaned(j) for j in range(ages - 1)]
            self.assertEqual(ask_of(a_life, NET, *calls), [[0, 1]] + [[-6]] * len(calls), a_life)

    def test_range_comes_first(self):
        for a_life in BARREN:
            ages = len(a_life[1])
            calls = [share_at(i) for i in (-1, ages, LEAST, GREATEST)]
            calls += [leaned(j) for j in (-1, ages - 1, LEAST, GREATEST)]
            self.assertEqual(ask_of(a_life, *calls), [[-3]] * 8, a_life)

    def test_smallest_births_are_enough(self):
        a_life = (20, [0] * 7 + [1], [1] * 7)
        self.assertEqual(ask_of(a_life, share_at(7), leaned(0), AGE), [[1, 1], [1, 1], [8, 1]])

    def test_life_is_left(self):
        split = ask(life(3, [0, 5], [0]), AGE, share_at(0), leaned(0), TOLD)
        self.assertEqual(split, [[0], [-6], [-6], [-6], [0, 3, 2, 0, 5, 0]])


if __name__ == "__main__":
    unittest.main()
