import random
import unittest

from support import GREATEST, LEAST, LIMIT, LIVES, after, ask_of, far, random_herd, random_life, scaled_years_on

TWO = (2, [1, 6], [1])


def polynomial_rests(a_life, t, q, x):
    """far by another way than by squaring a table: the power t of the unknown, by the life's own equation."""
    d, births, stays = a_life
    ages = len(births)
    equation = []
    share = 1
    for i in range(ages):
        equation.append(births[i] * share)
        share *= stays[i] if i < ages - 1 else 0
    # The unknown to the power A is the sum of equation[i] times the unknown to the power A - 1 - i.

    def product(a, b):
        wide = [0] * (2 * ages)
        for i, m in enumerate(a):
            for j, n in enumerate(b):
                wide[i + j] += m * n
        for k in range(2 * ages - 1, ages - 1, -1):
            for i in range(ages):
                wide[k - 1 - i] += wide[k] * equation[i]
            wide[k] = 0
        return [n % q for n in wide[:ages]]

    one = [1] + [0] * (ages - 1)
    unknown = product([0, 1], one)
    found = one
    for sign in bin(t)[2:]:
        found = product(found, found)
        if sign == "1":
            found = product(found, unknown)
    return [sum(c * scaled_years_on(a_life, k, x)[i] for k, c in enumerate(found)) % q for i in range(ages)]


class After(unittest.TestCase):
    def test_ordinary(self):
        # 1/2 * 4 + 6/2 * 2 = 8 newborn, 1/2 * 4 = 2 of age 1; then 4 + 6 = 10 and 4.
        self.assertEqual(ask_of(TWO, after(1, [4, 2]), after(2, [4, 2])), [[2, 16, 4], [4, 40, 16]])

    def test_no_years(self):
        self.assertEqual(ask_of(TWO, after(0, [4, 2]), after(0, [0, 10000])), [[1, 4, 2], [1, 0, 10000]])
        self.assertEqual(ask_of((20, [1000] * 8, [20] * 7), after(0, [10000] * 8)), [[1] + [10000] * 8])

    def test_forty_years(self):
        self.assertEqual(ask_of((1, [1, 1], [1]), after(40, [1, 0])), [[1, 165580141, 102334155]])
        self.assertEqual(ask_of((2, [2], []), after(40, [3])), [[2 ** 40, 3 * 2 ** 40]])
        self.assertEqual(ask_of((1, [0, 1], [1]), after(40, [5, 7])), [[1, 5, 7]])

    def test_last_age_dies(self):
        self.assertEqual(ask_of((3, [0, 0], [2]), after(1, [5, 7]), after(2, [5, 7])), [[3, 0, 10], [9, 0, 0]])

    def test_stays_of_nothing(self):
        self.assertEqual(ask_of((3, [1, 2], [0]), after(1, [5, 7]), after(2, [5, 7])), [[3, 19, 0], [9, 19, 0]])

    def test_empty_herd(self):
        self.assertEqual(ask_of((20, [1000], []), after(13, [0]), after(14, [0])), [[20 ** 13, 0], [-5]])

    def test_power_up_to_the_limit(self):
        for d in range(1, 21):
            for t in range(41):
                expected = [d ** t, 0] if d ** t <= LIMIT else [-5]
                self.assertEqual(ask_of((d, [0], []), after(t, [0])), [expected])

    def test_power_just_the_limit(self):
        self.assertEqual(ask_of((10, [1], []), after(18, [1]), after(19, [1])), [[LIMIT, 1], [-5]])

    def test_number_just_the_limit(self):
        self.assertEqual(ask_of((1, [10], []), after(18, [1]), after(14, [10000])), [[1, LIMIT], [1, LIMIT]])
        self.assertEqual(ask_of((1, [10], []), after(19, [1]), after(14, [10000])), [[-5], [1, LIMIT]])
        self.assertEqual(ask_of((1, [10, 1], [0]), after(18, [1, 0]), after(18, [1, 1])), [[1, LIMIT, 0], [-5]])

    def test_number_one_above_the_limit(self):
        # One of age 1 comes to age 7 in six years and bears its one child in the seventh.
        a_life = (1, [100, 0, 0, 0, 0, 0, 0, 1], [0, 1, 1, 1, 1, 1, 1])
        self.assertEqual(ask_of(a_life, after(7, [10000] + [0] * 7), after(7, [10000, 1] + [0] * 6)),
                         [[1, LIMIT] + [0] * 7, [-5]])
        self.assertEqual(ask_of(a_life, after(7, [9999, 1] + [0] * 6)), [[1, 9999 * 10 ** 14 + 1] + [0] * 7])

    def test_number_beyond_where_power_is_not(self):
        self.assertEqual(ask_of((1, [1000], []), after(6, [1]), after(7, [1]), after(40, [1])),
                         [[1, LIMIT], [-5], [-5]])
        # 10^18 newborn are told; age 1 alone goes beyond, with 11 * 10^17.
        self.assertEqual(ask_of((11, [10, 0], [11]), after(14, [10000, 0])), [[-5]])
        self.assertEqual(ask_of((11, [10, 0], [10]), after(14, [10000, 0])), [[11 ** 14, LIMIT, LIMIT]])

    def test_other_reckoning(self):
        source = random.Random(11)
        lives = LIVES + [random_life(source) for _ in range(150)]
        for a_life in lives:
            for t in (0, 1, 2, 3, 7, 8, 9, 13, 40):
                x = random_herd(source, a_life)
                expected = [a_life[0] ** t] + scaled_years_on(a_life, t, x)
                if max(expected) > LIMIT:
                    expected = [-5]
                self.assertEqual(ask_of(a_life, after(t, x)), [expected], (a_life, t, x))


class Far(unittest.TestCase):
    def test_ordinary(self):
        self.assertEqual(ask_of(TWO, far(1, 7, [4, 2]), far(2, 7, [4, 2])), [[0, 2, 4], [0, 5, 2]])

    def test_no_years(self):
        self.assertEqual(ask_of(TWO, far(0, 7, [14, 20]), far(0, 1, [4, 2]), far(0, 10 ** 9, [10000, 2])),
                         [[0, 0, 6], [0, 0, 0], [0, 10000, 2]])

    def test_edges_of_both(self):
        x = [9999, 10000]
        self.assertEqual(ask_of(TWO, far(LIMIT, 1, x)), [[0, 0, 0]])
        expected = [0] + polynomial_rests(TWO, LIMIT, 10 ** 9, x)
        self.assertEqual(ask_of(TWO, far(LIMIT, 10 ** 9, x)), [expected])

    def test_one_age_by_powers(self):
        for t in (0, 1, 2, 63, 64, 10 ** 9, LIMIT - 1, LIMIT):
            for q in (1, 2, 97, 999999937, 10 ** 9):
                for b in (0, 1, 3, 999, 1000):
                    expected = [0, pow(b, t, q) * 10000 % q]
                    self.assertEqual(ask_of((20, [b], []), far(t, q, [10000])), [expected])

    def test_rhythm_of_eight(self):
        a_life = (1, [0] * 7 + [1], [1] * 7)
        x = [1, 2, 3, 4, 5, 6, 7, 8]
        self.assertEqual(ask_of(a_life, far(LIMIT, 100, x)), [[0] + x])
        self.assertEqual(ask_of(a_life, far(LIMIT - 1, 100, x)), [[0] + x[1:] + x[:1]])

    def test_same_rests_as_after(self):
        source = random.Random(12)
        lives = LIVES + [random_life(source) for _ in range(100)]
        answered = 0
        for a_life in lives:
            for t in (0, 1, 2, 3, 4, 5, 6, 11, 17, 29, 40):
                q = source.choice([1, 2, 3, 10, 9973, 10 ** 9 - 1, 10 ** 9])
                x = random_herd(source, a_life)
                whole, rests = ask_of(a_life, after(t, x), far(t, q, x))
                if whole != [-5]:
                    answered += 1
                    self.assertEqual(rests, [0] + [n % q for n in whole[1:]], (a_life, t, q, x))
        self.assertGreater(answered, 300)

    def test_years_one_by_one_beyond_after(self):
        source = random.Random(13)
        for a_life in LIVES:
            for t in (41, 100, 257):
                q = source.randint(1, 10 ** 9)
                x = random_herd(source, a_life)
                expected = [0] + [n % q for n in scaled_years_on(a_life, t, x)]
                self.assertEqual(ask_of(a_life, far(t, q, x)), [expected])

    def test_other_reckoning(self):
        source = random.Random(14)
        lives = LIVES + [random_life(source) for _ in range(60)]
        for a_life in lives:
            for most in (LIMIT, 10 ** 12, 1000):
                t = source.randint(0, most)
                q = source.randint(1, 10 ** 9)
                x = random_herd(source, a_life)
                expected = [0] + polynomial_rests(a_life, t, q, x)
                self.assertEqual(ask_of(a_life, far(t, q, x)), [expected], (a_life, t, q, x))

    def test_years_add_up(self):
        source = random.Random(15)
        for a_life in LIVES:
            q = source.randint(1, 10001)
            first = source.randint(0, LIMIT)
            x = random_herd(source, a_life)
            between = ask_of(a_life, far(first, q, x))[0][1:]
            at_once, in_two = ask_of(a_life, far(LIMIT, q, x), far(LIMIT - first, q, between))
            self.assertEqual(at_once, in_two)


class Refused(unittest.TestCase):
    def refused(self, number, call):
        self.assertEqual(ask_of(TWO, call, [1]), [[number], [0, 2, 2, 1, 6, 1]])

    def test_years_of_after(self):
        for t in (-1, 41, LEAST, GREATEST):
            self.refused(-3, after(t, [1, 1]))
            self.refused(-3, after(t, []))
            self.refused(-3, after(t, [10001] * 30))

    def test_years_of_far(self):
        for t in (-1, LIMIT + 1, LEAST, GREATEST):
            self.refused(-3, far(t, 1, [1, 1]))
            self.refused(-3, far(t, 0, [1, 1]))
            self.refused(-3, far(t, 5, []))

    def test_divisor_of_far(self):
        for q in (0, -1, 10 ** 9 + 1, LEAST, GREATEST):
            self.refused(-3, far(0, q, [1, 1]))
            self.refused(-3, far(LIMIT, q, [1, 1]))
            self.refused(-3, far(3, q, [-1]))

    def test_herd(self):
        herds = [[], [1], [1] * 3, [1] * 8, [1] * 30]
        herds += [[n, 1] for n in (-1, 10001, LEAST, GREATEST)]
        herds += [[1, n] for n in (-1, 10001, LEAST, GREATEST)]
        for x in herds:
            self.refused(-4, after(0, x))
            self.refused(-4, after(40, x))
            self.refused(-4, far(0, 1, x))
            self.refused(-4, far(LIMIT, 10 ** 9, x))

    def test_herd_ahead_of_limit(self):
        self.assertEqual(ask_of((20, [1000], []), after(40, []), after(40, [10001]), after(40, [10000])),
                         [[-4], [-4], [-5]])

    def test_edges_are_taken(self):
        self.assertEqual(ask_of(TWO, after(0, [0, 10000]), after(40, [0, 0])), [[1, 0, 10000], [2 ** 40, 0, 0]])
        self.assertEqual(ask_of(TWO, far(0, 10 ** 9, [0, 10000]), far(LIMIT, 1, [10000, 0])),
                         [[0, 0, 10000], [0, 0, 0]])


if __name__ == "__main__":
    unittest.main()
