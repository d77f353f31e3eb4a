import random
import unittest

from support import (GREATEST, LEAST, LIMIT, LIVES, TOLD, after, ask_of, births_in, random_life, random_steady_life,
                     scaled_years_on)

TWO = (2, [1, 6], [1])


def newborn(a_life):
    return [1] + [0] * (len(a_life[1]) - 1)


class Births(unittest.TestCase):
    def test_ordinary(self):
        # Of one of age 0: 1/2; then 1/2 * 1/2 + 6/2 * 1/2 = 7/4; then 1/2 * 7/4 + 6/2 * 1/4 = 13/8.
        self.assertEqual(ask_of(TWO, births_in(1), births_in(2), births_in(3)), [[1, 2], [7, 4], [13, 8]])

    def test_no_years(self):
        for a_life in LIVES:
            self.assertEqual(ask_of(a_life, births_in(0)), [[1, 1]])

    def test_forty_years(self):
        self.assertEqual(ask_of((1, [1, 1], [1]), births_in(40)), [[165580141, 1]])
        self.assertEqual(ask_of((2, [1], []), births_in(40)), [[1, 2 ** 40]])
        self.assertEqual(ask_of((1, [0] * 7 + [1], [1] * 7), births_in(39), births_in(40)), [[0, 1], [1, 1]])
        self.assertEqual(ask_of((20, [1000], []), births_in(40)), [[-5]])

    def test_not_in_lowest_terms(self):
        self.assertEqual(ask_of((2, [2], []), births_in(3), births_in(40)), [[8, 8], [2 ** 40, 2 ** 40]])
        self.assertEqual(ask_of((6, [0], []), births_in(2)), [[0, 36]])

    def test_power_up_to_the_limit(self):
        for d in range(1, 21):
            for t in range(41):
                expected = [0 ** t, d ** t] if d ** t <= LIMIT else [-5]
                self.assertEqual(ask_of((d, [0], []), births_in(t)), [expected])

    def test_power_just_the_limit(self):
        self.assertEqual(ask_of((10, [1], []), births_in(18), births_in(19)), [[1, LIMIT], [-5]])
        self.assertEqual(ask_of((10, [10], []), births_in(18), births_in(19)), [[LIMIT, LIMIT], [-5]])

    def test_number_beyond_where_power_is_not(self):
        self.assertEqual(ask_of((1, [1000], []), births_in(6), births_in(7), births_in(40)), [[LIMIT, 1], [-5], [-5]])
        self.assertEqual(ask_of((2, [1000], []), births_in(6), births_in(7)), [[LIMIT, 64], [-5]])

    def test_number_one_above_the_limit(self):
        self.assertEqual(ask_of((1, [1000, 0, 0, 0, 0, 0], [1] * 5), births_in(6)), [[LIMIT, 1]])
        self.assertEqual(ask_of((1, [1000, 0, 0, 0, 0, 1], [1] * 5), births_in(5), births_in(6)),
                         [[10 ** 15, 1], [-5]])

    def test_other_ages_may_be_beyond(self):
        # All are of age 1 in odd years, of age 0 in even ones.
        a_life = (2, [0, 1000], [2])
        self.assertEqual(ask_of(a_life, after(13, [1, 0]), births_in(13)), [[-5], [0, 2 ** 13]])
        self.assertEqual(ask_of(a_life, births_in(10), births_in(12), births_in(39)),
                         [[2000 ** 5, 2 ** 10], [-5], [0, 2 ** 39]])

    def test_same_as_after(self):
        source = random.Random(71)
        lives = [random_steady_life(source, ages) for ages in range(1, 9)] + [random_life(source) for _ in range(100)]
        answered = 0
        for a_life in LIVES + lives:
            for t in range(41):
                whole, told = ask_of(a_life, after(t, newborn(a_life)), births_in(t))
                if whole != [-5]:
                    answered += 1
                    self.assertEqual(told, [whole[1], whole[0]], (a_life, t))
        self.assertGreater(answered, 1000)

    def test_other_reckoning(self):
        source = random.Random(72)
        for a_life in LIVES + [random_life(source) for _ in range(150)]:
            for t in (0, 1, 2, 3, 7, 8, 9, 13, 40):
                expected = [scaled_years_on(a_life, t, newborn(a_life))[0], a_life[0] ** t]
                if max(expected) > LIMIT:
                    expected = [-5]
                self.assertEqual(ask_of(a_life, births_in(t)), [expected], (a_life, t))


class Refused(unittest.TestCase):
    def test_range(self):
        for a_life in (TWO, (20, [1000] * 8, [20] * 7), (1, [0], [])):
            told = [0, a_life[0], len(a_life[1])] + a_life[1] + a_life[2]
            for t in (-1, 41, LEAST, GREATEST):
                self.assertEqual(ask_of(a_life, births_in(t), TOLD), [[-3], told])

    def test_life_is_left(self):
        self.assertEqual(ask_of((20, [9], []), births_in(14), TOLD, births_in(1)), [[-5], [0, 20, 1, 9], [9, 20]])


if __name__ == "__main__":
    unittest.main()
