import random
import unittest
from fractions import Fraction

from support import LIVES, NET, after, ask_of, fate, random_herd, random_life, worth, worth_of, years_on


def fate_told(a_life, x):
    return ask_of(a_life, fate(x))[0][0]


def most_in(a_life, x, first, last):
    """The most that any age has in the years from first to last."""
    x = years_on(a_life, first, x)
    most = max(x)
    for _ in range(first, last):
        x = years_on(a_life, 1, x)
        most = max(most, max(x))
    return most


class FateComesTrue(unittest.TestCase):
    """Promise 1."""

    def test_two_outgrows_bounds(self):
        for a_life, x in (
            ((1, [2], []), [1]),
            ((3, [0, 10], [1]), [0, 1]),
            ((3, [0, 10], [1]), [1, 0]),
            ((1, [0, 0, 0, 2], [1, 1, 1]), [0, 0, 1, 0]),
            ((4, [5, 4, 0], [0, 4]), [0, 1, 0]),
            ((2, [0, 3, 3], [1, 1]), [1, 0, 0]),
        ):
            self.assertEqual(fate_told(a_life, x), 2)
            self.assertGreater(most_in(a_life, x, 400, 408), 1000)

    def test_nought_gets_less_than_any_share(self):
        for a_life, x in (
            ((2, [1], []), [10000]),
            ((3, [0, 8], [1]), [9, 9]),
            ((4, [2, 0, 6], [0, 4]), [1, 2, 3]),
            ((9, [1000, 0], [9]), [0, 10000]),
            ((1, [0, 2, 0], [1, 1]), [0, 0, 10000]),
            ((1, [0, 1000], [0]), [10000, 10000]),
            ((1, [1000], []), [0]),
        ):
            self.assertEqual(fate_told(a_life, x), 0)
            self.assertLess(most_in(a_life, x, 400, 408), Fraction(1, 1000))

    def test_one_stays_between_bounds(self):
        for a_life, x in (
            ((1, [1], []), [7]),
            ((3, [0, 9], [1]), [0, 1]),
            ((2, [1, 2], [1]), [5, 0]),
            ((1, [0, 0, 0, 1], [1, 1, 1]), [0, 0, 3, 0]),
            ((1, [1, 1], [0]), [0, 4]),
        ):
            self.assertEqual(fate_told(a_life, x), 1)
            self.assertLessEqual(most_in(a_life, x, 200, 208), 20)
            self.assertGreaterEqual(most_in(a_life, x, 200, 208), 1)

    def test_many_lives(self):
        source = random.Random(31)
        for a_life in LIVES + [random_life(source) for _ in range(60)]:
            x = random_herd(source, a_life)
            told = fate_told(a_life, x)
            # By year 8 all that were there at first are dead; what is to come is then the children's.
            early = worth_of(a_life, years_on(a_life, 8, x))
            late = worth_of(a_life, years_on(a_life, 64, x))
            if told == 2:
                self.assertGreater(late, early, (a_life, x))
            elif told == 1:
                self.assertGreater(early, 0, (a_life, x))
                self.assertEqual(late, early, (a_life, x))
            elif early > 0:
                self.assertLess(late, early, (a_life, x))
            else:
                self.assertEqual(max(years_on(a_life, 16, x)), 0, (a_life, x))


class YearChangesWorth(unittest.TestCase):
    """Promise 2, by the program's answers alone."""

    def year_holds(self, a_life, x):
        d = a_life[0]
        later, net, worth_before = ask_of(a_life, after(1, x), NET, worth(x))
        self.assertEqual(later[0], d)
        scaled = later[1:]
        if max(scaled) > 10000:
            return False
        # The herd of d times the numbers is worth d times as much, and its numbers are whole.
        worth_after = Fraction(*ask_of(a_life, worth(scaled))[0]) / d
        newborn = Fraction(scaled[0], d)
        self.assertEqual(worth_after - Fraction(*worth_before), newborn * (Fraction(*net) - 1), (a_life, x))
        return True

    def test_lives_and_herds(self):
        source = random.Random(32)
        held = 0
        for a_life in LIVES + [random_life(source) for _ in range(200)]:
            ages = len(a_life[1])
            herds = [[0] * ages, [1] * ages, list(range(ages)), [source.randint(0, 9) for _ in range(ages)]]
            for x in herds:
                held += self.year_holds(a_life, x)
        self.assertGreater(held, 500)

    def test_each_age_alone(self):
        for a_life in LIVES:
            ages = len(a_life[1])
            for i in range(ages):
                self.assertTrue(self.year_holds(a_life, [0] * i + [1] + [0] * (ages - 1 - i)))


if __name__ == "__main__":
    unittest.main()
