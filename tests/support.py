"""What the tests share: writing calls, splitting answers, and a slow reckoning of its own to compare with."""

from fractions import Fraction

from ageclasses.herd import answers

LEAST = -9223372036854775808
GREATEST = 9223372036854775807
LIMIT = 10 ** 18


def row(numbers):
    return [len(numbers)] + list(numbers)


def life(d, births, stays):
    return [0, d] + row(births) + row(stays)


TOLD = [1]
NET = [4]
YEARS = [8]
AGE = [11]
SPARE = [12]
STEADY = [13]
RHYTHM = [14]


def after(t, x):
    return [2, t] + row(x)


def far(t, q, x):
    return [3, t, q] + row(x)


def fate(x):
    return [5] + row(x)


def value(i):
    return [6, i]


def worth(x):
    return [7] + row(x)


def share_at(i):
    return [9, i]


def leaned(j):
    return [10, j]


def births_in(t):
    return [15, t]


def reached(i):
    return [16, i]


def ask(*calls):
    """The answers, one list for each call."""
    given = answers([number for call in calls for number in call])
    split = []
    place = 0
    while place < len(given):
        many = given[place]
        split.append(given[place + 1:place + 1 + many])
        place += 1 + many
    return split


def ask_of(a_life, *calls):
    """The answers behind a life that is taken."""
    split = ask(life(*a_life), *calls)
    if split[0] != [0]:
        raise AssertionError(f"life refused: {a_life} {split[0]}")
    return split[1:]


def pair(fraction):
    return [fraction.numerator, fraction.denominator]


def year_on(a_life, x):
    """The herd a year later, by the words of the document."""
    d, births, stays = a_life
    newborn = sum((Fraction(b, d) * n for b, n in zip(births, x)), Fraction(0))
    return [newborn] + [Fraction(stays[i], d) * x[i] for i in range(len(stays))]


def years_on(a_life, t, x):
    for _ in range(t):
        x = year_on(a_life, x)
    return x


def scaled_years_on(a_life, t, x):
    """d^t times the herd's numbers after t years."""
    scaled = [a_life[0] ** t * n for n in years_on(a_life, t, x)]
    return [int(n) for n in scaled]


def value_of(a_life, i):
    """The births to come of one of age i: the sum of products, as it is told."""
    d, births, stays = a_life
    total = Fraction(0)
    for k in range(i, len(births)):
        share = Fraction(1)
        for j in range(i, k):
            share *= Fraction(stays[j], d)
        total += Fraction(births[k], d) * share
    return total


def worth_of(a_life, x):
    return sum((n * value_of(a_life, i) for i, n in enumerate(x)), Fraction(0))


def reached_of(a_life, i):
    d, _, stays = a_life
    share = Fraction(1)
    for stay in stays[:i]:
        share *= Fraction(stay, d)
    return share


def years_of(a_life):
    return sum(reached_of(a_life, i) for i in range(len(a_life[1])))


def shares_of(a_life):
    """Each age's share of a newborn's births to come, or None where there are none to come."""
    d, births, _ = a_life
    parts = [Fraction(n, d) * reached_of(a_life, i) for i, n in enumerate(births)]
    if sum(parts) == 0:
        return None
    return [part / sum(parts) for part in parts]


def random_life(source):
    d = source.randint(1, 20)
    ages = source.randint(1, 8)
    most = source.choice([1, 5, 30, 1000])
    births = [source.choice([0, source.randint(0, most)]) for _ in range(ages)]
    stays = [source.choice([0, d, source.randint(0, d), source.randint(0, d)]) for _ in range(ages - 1)]
    return d, births, stays


def random_steady_life(source, ages):
    """One with R just 1: what is still due is put upon the last age, if that age can bear it."""
    while True:
        d = source.choice([1, 2, 4, 6, 12, 20])
        births = []
        stays = []
        due = Fraction(1)
        for _ in range(ages - 1):
            births.append(source.choice([0, 0, source.randint(0, d)]))
            stays.append(source.randint(1, d))
            due = (due - Fraction(births[-1], d)) * d / stays[-1]
        last = due * d
        if last.denominator == 1 and 0 <= last <= 1000:
            return d, births + [int(last)], stays


def random_herd(source, a_life):
    most = source.choice([0, 1, 9, 10000])
    return [source.randint(0, most) for _ in a_life[1]]


# Lives with what is told of them: one age, no births, no stays, R below, at and above 1, each kind of rhythm.
LIVES = [
    (1, [0], []),
    (1, [1], []),
    (2, [1], []),
    (20, [1000], []),
    (2, [0, 4], [1]),
    (3, [0, 9], [1]),
    (3, [0, 8], [1]),
    (3, [0, 10], [1]),
    (2, [1, 2], [1]),
    (1, [0, 0, 0], [1, 1]),
    (4, [2, 0, 6], [0, 4]),
    (5, [0, 3, 5, 2], [4, 3, 1]),
    (10, [0, 0, 15, 20, 5], [5, 8, 9, 3]),
    (7, [0, 0, 0, 0, 0, 0, 0, 1000], [1, 2, 3, 4, 5, 6, 7]),
    (20, [1000] * 8, [20] * 7),
    (20, [0] * 8, [0] * 7),
    (6, [1, 2, 3, 4, 5, 6, 7, 8], [6, 5, 4, 3, 2, 1, 0]),
]
