import math
import random
import unittest
from fractions import Fraction

from support import (LIVES, NET, RHYTHM, SPARE, STEADY, TOLD, after, ask_of, pair, random_life, random_steady_life,
                     reached, reached_of, value_of)


def net_with(a_life, k):
    """R where all births and stays are (d - k) / d of what they are."""
    d, births, stays = a_life
    left = Fraction(d - k, d)
    return value_of((d, [left * n for n in births], [left * n for n in stays]), 0)


def spare_of(a_life):
    """From nothing taken upwards, as long as R is 1 or more: R never grows by taking more."""
    if net_with(a_life, 0) < 1:
        return -6
    k = 0
    while net_with(a_life, k + 1) >= 1:
        k += 1
    return k


class Spare(unittest.TestCase):
    def spare(self, k, a_life):
        self.assertEqual(ask_of(a_life, SPARE), [[k]], a_life)

    def test_ordinary(self):
        # R is 3, with k = 2 it's 12/4 * 2/4 = 3/2, with k = 3 it's 3/4.
        self.spare(2, (4, [12], []))

    def test_births_and_stays_are_lessened(self):
        # 80/20 by half and again by half; were the births alone lessened, 15 could be taken.
        self.spare(10, (20, [0, 80], [20]))
        self.spare(9, (20, [0, 79], [20]))
        self.spare(10, (20, [0, 81], [20]))

    def test_less_than_one(self):
        self.spare(-6, (20, [19], []))
        self.spare(-6, (1, [0], []))
        self.spare(-6, (20, [19, 0, 0, 0, 0, 0, 0, 19], [20, 20, 20, 20, 20, 20, 1]))
        self.spare(-6, (20, [0, 1000], [0]))
        self.spare(-6, (20, [0] * 8, [20] * 7))

    def test_just_one(self):
        self.spare(0, (1, [1], []))
        self.spare(0, (20, [20], []))
        self.spare(0, (2, [1, 2], [1]))
        self.spare(0, (20, [19, 0, 0, 0, 0, 0, 0, 20], [20, 20, 20, 20, 20, 20, 1]))

    def test_just_one_at_a_greater_k(self):
        self.spare(1, (2, [4], []))
        self.spare(10, (20, [40], []))
        self.spare(18, (20, [200], []))
        # With k = 10 each age adds 1/8.
        eight = [5, 10, 20, 40, 80, 160, 320, 640]
        self.assertEqual(net_with((20, eight, [20] * 7), 10), 1)
        self.spare(10, (20, eight, [20] * 7))
        self.spare(9, (20, eight[:7] + [639], [20] * 7))
        self.spare(10, (20, eight[:7] + [641], [20] * 7))

    def test_reckoned_as_fractions(self):
        # 4 * 2/3 is neither 2 nor 3: with k = 1, R is 8/9; with 5 it's 10/9.
        self.spare(0, (3, [4], []))
        self.spare(1, (3, [5], []))

    def test_near_d(self):
        self.spare(19, (20, [1000], []))
        self.spare(19, (20, [400], []))
        self.spare(18, (20, [399], []))
        self.spare(19, (20, [1000] * 8, [20] * 7))
        self.spare(9, (10, [1000] * 8, [10] * 7))

    def test_d_of_one(self):
        for births in (1, 2, 1000):
            self.spare(0, (1, [births], []))
            self.spare(0, (1, [0] * 7 + [births], [1] * 7))
        self.spare(0, (1, [1000] * 8, [1] * 7))
        self.spare(-6, (1, [0] * 8, [1] * 7))

    def test_one_age(self):
        for d in range(1, 21):
            for births in (d, d + 1, 2 * d - 1, 2 * d, 3 * d, d * d - 1, d * d, d * d + 1, 1000):
                if births >= d:
                    self.spare(d - math.ceil(Fraction(d * d, births)), (d, [births], []))

    def test_other_reckoning(self):
        source = random.Random(61)
        seen = {}
        lives = [random_steady_life(source, ages) for ages in range(1, 9)] + [random_life(source) for _ in range(300)]
        for a_life in LIVES + lives:
            k = spare_of(a_life)
            seen[k] = True
            self.spare(k, a_life)
        self.assertGreater(len(seen), 10)

    def test_life_is_left(self):
        self.assertEqual(ask_of((4, [12, 1], [3]), SPARE, TOLD, SPARE), [[2], [0, 4, 2, 12, 1, 3], [2]])


class Steady(unittest.TestCase):
    def steady(self, numbers, a_life):
        self.assertEqual(ask_of(a_life, NET, STEADY), [[1, 1], [0] + numbers], a_life)

    def test_ordinary(self):
        self.steady([2, 1], (2, [1, 2], [1]))
        self.steady([25, 20, 12], (5, [1, 5, 0], [4, 3]))

    def test_lowest(self):
        self.steady([3, 2], (6, [6, 0], [4]))
        self.steady([1, 1, 1], (6, [0, 0, 6], [6, 6]))
        self.steady([10, 5, 1], (20, [10, 20, 0], [10, 4]))

    def test_one_age(self):
        for d in range(1, 21):
            self.steady([1], (d, [d], []))
            self.assertEqual(ask_of((d, [d - 1], []), STEADY), [[-6]])
            self.assertEqual(ask_of((d, [d + 1], []), STEADY), [[-6]])

    def test_ages_that_none_comes_to(self):
        self.steady([1, 0], (7, [7, 3], [0]))
        self.steady([1, 0, 0], (4, [4, 0, 6], [0, 4]))
        self.steady([2, 1, 0, 0], (20, [10, 20, 5, 7], [10, 0, 20]))

    def test_eight_ages(self):
        self.steady([20 ** (7 - i) for i in range(8)], (20, [20] + [0] * 7, [1] * 7))
        self.steady([20 ** (7 - i) * 19 ** i for i in range(8)], (20, [20] + [0] * 7, [19] * 7))
        self.steady([32, 16, 8, 4, 2, 1, 1, 1], (20, [0] * 7 + [640], [10] * 5 + [20, 20]))
        self.steady([20] * 7 + [1], (20, [19] + [0] * 6 + [20], [20] * 6 + [1]))

    def test_not_one(self):
        for a_life in (
            (2, [1, 3], [1]),
            (2, [1, 1], [1]),
            (20, [0] * 8, [20] * 7),
            (20, [1000] * 8, [20] * 7),
            (20, [0, 1000], [0]),
            (20, [19] + [0] * 6 + [19], [20] * 6 + [1]),
            (20, [19] + [0] * 6 + [21], [20] * 6 + [1]),
            (1, [2], []),
        ):
            told = [0, a_life[0], len(a_life[1])] + a_life[1] + a_life[2]
            self.assertEqual(ask_of(a_life, STEADY, TOLD), [[-6], told], a_life)

    def test_other_reckoning(self):
        source = random.Random(62)
        for ages in range(1, 9):
            for _ in range(20):
                a_life = random_steady_life(source, ages)
                shares = [reached_of(a_life, i) for i in range(ages)]
                lower = math.lcm(*[share.denominator for share in shares])
                self.steady([int(share * lower) for share in shares], a_life)

    def test_as_what_reached_tells(self):
        source = random.Random(63)
        for ages in range(1, 9):
            a_life = random_steady_life(source, ages)
            split = ask_of(a_life, STEADY, *[reached(i) for i in range(ages)])
            numbers = split[0][1:]
            self.assertEqual(math.gcd(*numbers), 1)
            self.assertEqual(split[1:], [pair(Fraction(n, numbers[0])) for n in numbers])

    def test_such_a_herd_stays_as_it_is(self):
        source = random.Random(64)
        held = 0
        for ages in range(1, 9):
            for _ in range(10):
                a_life = random_steady_life(source, ages)
                numbers = ask_of(a_life, STEADY)[0][1:]
                if max(numbers) <= 10000:
                    held += 1
                    d = a_life[0]
                    self.assertEqual(ask_of(a_life, after(1, numbers)), [[d] + [d * n for n in numbers]], a_life)
        self.assertGreater(held, 40)

    def test_only_where_just_one(self):
        source = random.Random(65)
        for a_life in LIVES + [random_life(source) for _ in range(200)]:
            answered = ask_of(a_life, STEADY)[0] != [-6]
            self.assertEqual(answered, value_of(a_life, 0) == 1, a_life)


class Rhythm(unittest.TestCase):
    def rhythm(self, number, a_life):
        self.assertEqual(ask_of(a_life, RHYTHM), [[number]], a_life)

    def test_no_births(self):
        self.rhythm(0, (1, [0], []))
        self.rhythm(0, (20, [0] * 8, [20] * 7))

    def test_births_that_none_comes_to(self):
        self.rhythm(0, (3, [0, 5], [0]))
        self.rhythm(0, (3, [0, 0, 5], [0, 3]))
        self.rhythm(1, (3, [2, 5], [0]))
        self.rhythm(2, (3, [0, 2, 5], [1, 0]))
        self.rhythm(3, (3, [0, 0, 5, 1, 1, 9], [3, 1, 0, 3, 3]))

    def test_one_age_alone(self):
        self.rhythm(1, (1, [1], []))
        self.rhythm(1, (20, [1000], []))
        for i in range(8):
            self.rhythm(i + 1, (20, [0] * i + [1] + [0] * (7 - i), [1] * 7))

    def test_divisor_above_one(self):
        self.rhythm(2, (2, [0, 1, 0, 1], [1, 1, 1]))
        self.rhythm(2, (2, [0, 1, 0, 1, 0, 1, 0, 1], [1] * 7))
        self.rhythm(2, (2, [0, 0, 0, 1, 0, 1], [1] * 5))
        self.rhythm(2, (2, [0, 0, 0, 0, 0, 3, 0, 1], [2] * 7))
        self.rhythm(3, (2, [0, 0, 1, 0, 0, 1, 0, 0], [1] * 7))
        self.rhythm(4, (2, [0, 0, 0, 1, 0, 0, 0, 1], [1] * 7))

    def test_divisor_of_one(self):
        self.rhythm(1, (2, [1, 1], [1]))
        self.rhythm(1, (2, [0, 1, 1], [1, 1]))
        self.rhythm(1, (2, [0, 0, 0, 0, 0, 0, 1, 1], [1] * 7))
        self.rhythm(1, (2, [0, 0, 0, 1, 0, 1, 1], [1] * 6))
        self.rhythm(1, (20, [1000] * 8, [20] * 7))

    def test_other_reckoning(self):
        source = random.Random(66)
        for a_life in LIVES + [random_life(source) for _ in range(300)]:
            spans = [i + 1 for i, n in enumerate(a_life[1]) if n > 0 and reached_of(a_life, i) > 0]
            divisors = [n for n in range(1, 9) if all(span % n == 0 for span in spans)]
            self.rhythm(max(divisors) if spans else 0, a_life)


if __name__ == "__main__":
    unittest.main()
