import random
import unittest
from fractions import Fraction

from support import (LIMIT, LIVES, NET, after, ask_of, births_in, far, fate, leaned, random_herd, random_life,
                     random_steady_life, scaled_years_on, share_at, value_of, worth, worth_of, years_on)


def twice(numbers, place):
    return numbers[:place] + [2 * numbers[place]] + numbers[place + 1:]


def fate_told(a_life, x):
    return ask_of(a_life, fate(x))[0][0]


def most_in(a_life, x, first, last):
    """The most that any age has in the years from first to last."""
    x = years_on(a_life, first, x)
    most = max(x)
    for _ in range(first, last):
        x = years_on(a_life, 1, x)
        most = max(most, max(x))
    return most


class FateComesTrue(unittest.TestCase):
    """Promise 1."""

    def test_two_outgrows_bounds(self):
        for a_life, x in (
            ((1, [2], []), [1]),
            ((3, [0, 10], [1]), [0, 1]),
            ((3, [0, 10], [1]), [1, 0]),
            ((1, [0, 0, 0, 2], [1, 1, 1]), [0, 0, 1, 0]),
            ((4, [5, 4, 0], [0, 4]), [0, 1, 0]),
            ((2, [0, 3, 3], [1, 1]), [1, 0, 0]),
        ):
            self.assertEqual(fate_told(a_life, x), 2)
            self.assertGreater(most_in(a_life, x, 400, 408), 1000)

    def test_nought_gets_less_than_any_share(self):
        for a_life, x in (
            ((2, [1], []), [10000]),
            ((3, [0, 8], [1]), [9, 9]),
            ((4, [2, 0, 6], [0, 4]), [1, 2, 3]),
            ((9, [1000, 0], [9]), [0, 10000]),
            ((1, [0, 2, 0], [1, 1]), [0, 0, 10000]),
            ((1, [0, 1000], [0]), [10000, 10000]),
            ((1, [1000], []), [0]),
        ):
            self.assertEqual(fate_told(a_life, x), 0)
            self.assertLess(most_in(a_life, x, 400, 408), Fraction(1, 1000))

    def test_one_stays_between_bounds(self):
        for a_life, x in (
            ((1, [1], []), [7]),
            ((3, [0, 9], [1]), [0, 1]),
            ((2, [1, 2], [1]), [5, 0]),
            ((1, [0, 0, 0, 1], [1, 1, 1]), [0, 0, 3, 0]),
            ((1, [1, 1], [0]), [0, 4]),
        ):
            self.assertEqual(fate_told(a_life, x), 1)
            self.assertLessEqual(most_in(a_life, x, 200, 208), 20)
            self.assertGreaterEqual(most_in(a_life, x, 200, 208), 1)

    def test_many_lives(self):
        source = random.Random(31)
        for a_life in LIVES + [random_life(source) for _ in range(60)]:
            x = random_herd(source, a_life)
            told = fate_told(a_life, x)
            # By year 8 all that were there at first are dead; what is to come is then the children's.
            early = worth_of(a_life, years_on(a_life, 8, x))
            late = worth_of(a_life, years_on(a_life, 64, x))
            if told == 2:
                self.assertGreater(late, early, (a_life, x))
            elif told == 1:
                self.assertGreater(early, 0, (a_life, x))
                self.assertEqual(late, early, (a_life, x))
            elif early > 0:
                self.assertLess(late, early, (a_life, x))
            else:
                self.assertEqual(max(years_on(a_life, 16, x)), 0, (a_life, x))


class YearChangesWorth(unittest.TestCase):
    """Promise 2, by the program's answers alone."""

    def year_holds(self, a_life, x):
        d = a_life[0]
        later, net, worth_before = ask_of(a_life, after(1, x), NET, worth(x))
        self.assertEqual(later[0], d)
        scaled = later[1:]
        if max(scaled) > 10000:
            return False
        # The herd of d times the numbers is worth d times as much, and its numbers are whole.
        worth_after = Fraction(*ask_of(a_life, worth(scaled))[0]) / d
        newborn = Fraction(scaled[0], d)
        self.assertEqual(worth_after - Fraction(*worth_before), newborn * (Fraction(*net) - 1), (a_life, x))
        return True

    def test_lives_and_herds(self):
        source = random.Random(32)
        held = 0
        for a_life in LIVES + [random_life(source) for _ in range(200)]:
            ages = len(a_life[1])
            herds = [[0] * ages, [1] * ages, list(range(ages)), [source.randint(0, 9) for _ in range(ages)]]
            for x in herds:
                held += self.year_holds(a_life, x)
        self.assertGreater(held, 500)

    def test_each_age_alone(self):
        for a_life in LIVES:
            ages = len(a_life[1])
            for i in range(ages):
                self.assertTrue(self.year_holds(a_life, [0] * i + [1] + [0] * (ages - 1 - i)))


class FarIsRight(unittest.TestCase):
    """Promise 3."""

    def test_each_year_follows_from_the_one_before(self):
        source = random.Random(33)
        for a_life in LIVES:
            d, births, stays = a_life
            q = source.randint(1, 10 ** 9)
            x = random_herd(source, a_life)
            for t in (0, 1, 40, 10 ** 9, source.randint(0, LIMIT), LIMIT - 1):
                split = ask_of(a_life, far(t, q, x), far(t + 1, q, x))
                before, later = split[0][1:], split[1][1:]
                newborn = sum(b * n for b, n in zip(births, before))
                grown = [s * n for s, n in zip(stays, before)]
                self.assertEqual(later, [n % q for n in [newborn] + grown], (a_life, t, q, x))

    def test_rests_of_births(self):
        for a_life in LIVES:
            one = [1] + [0] * (len(a_life[1]) - 1)
            for t in range(41):
                told, rests = ask_of(a_life, births_in(t), far(t, 9973, one))
                number = scaled_years_on(a_life, t, one)[0] if told == [-5] else told[0]
                self.assertEqual(rests[1], number % 9973, (a_life, t))


class TwiceAdds(unittest.TestCase):
    """Promise 4: by the program's answers alone where the changed life is one, else by the exact reckoning."""

    def net_of(self, a_life):
        d, births, stays = a_life
        if max(births) > 1000 or max(stays, default=0) > d:
            return value_of(a_life, 0)
        self.asked += 1
        return Fraction(*ask_of(a_life, NET)[0])

    def promise_holds(self, a_life):
        d, births, stays = a_life
        net = self.net_of(a_life)
        for i in range(len(births)):
            share = Fraction(*ask_of(a_life, share_at(i))[0])
            more = self.net_of((d, twice(births, i), stays)) - net
            self.assertEqual(more, share * net, (a_life, i))
        for j in range(len(stays)):
            share = Fraction(*ask_of(a_life, leaned(j))[0])
            more = self.net_of((d, births, twice(stays, j))) - net
            self.assertEqual(more, share * net, (a_life, j))

    def test_by_hand(self):
        # R is 1/4 + 3/4 * 2/4 = 5/8; twice the first births add 2/8, twice the second 3/8, as does twice the stay.
        a_life = (4, [1, 3], [2])
        self.assertEqual(ask_of(a_life, NET, share_at(0), share_at(1), leaned(0)), [[5, 8], [2, 5], [3, 5], [3, 5]])
        self.assertEqual(ask_of((4, [2, 3], [2]), NET), [[7, 8]])
        self.assertEqual(ask_of((4, [1, 6], [2]), NET), [[1, 1]])
        self.assertEqual(ask_of((4, [1, 3], [4]), NET), [[1, 1]])

    def test_many_lives(self):
        source = random.Random(34)
        self.asked = 0
        lives = [random_steady_life(source, ages) for ages in range(1, 9)] + [random_life(source) for _ in range(200)]
        for a_life in LIVES + lives:
            if value_of(a_life, 0) > 0:
                self.promise_holds(a_life)
        self.assertGreater(self.asked, 400)


if __name__ == "__main__":
    unittest.main()
