"""A life, its fractions and its years, all in whole numbers."""


class Life:
    """What is born to each age and what share of each age lives on, both in parts of d."""

    def __init__(self, d, births, stays):
        self.d = d
        self.births = births
        self.stays = stays
        self.ages = len(births)


def common_divisor(a, b):
    while b > 0:
        rest = a % b
        a = b
        b = rest
    return a


def fraction(upper, lower):
    """In lowest terms: every fraction of the program is made here, so two equal ones look equal."""
    divisor = common_divisor(upper, lower)
    return (upper // divisor, lower // divisor)


def plus(a, b):
    return fraction(a[0] * b[1] + b[0] * a[1], a[1] * b[1])


def times(a, b):
    return fraction(a[0] * b[0], a[1] * b[1])


def power(base, exponent):
    product = 1
    for k in range(exponent):
        product = product * base
    return product


def share_reaching(life, i):
    """The share of the newborn that come to age i."""
    share = fraction(1, 1)
    for k in range(i):
        share = times(share, fraction(life.stays[k], life.d))
    return share


def years_to_live(life):
    total = fraction(0, 1)
    for i in range(life.ages):
        total = plus(total, share_reaching(life, i))
    return total


def births_to_come(life, i):
    """Of one of age i."""
    last = life.ages - 1
    coming = fraction(life.births[last], life.d)
    # From the last age down, each age needs only what the next one has to come.
    for k in range(last - 1, i - 1, -1):
        later = times(fraction(life.stays[k], life.d), coming)
        coming = plus(fraction(life.births[k], life.d), later)
    return coming


def herd_births_to_come(life, x):
    total = fraction(0, 1)
    for i, number in enumerate(x):
        total = plus(total, times(fraction(number, 1), births_to_come(life, i)))
    return total


def year_table(life):
    """What a year does, times d so that it stays whole: a row for each age of the year after."""
    table = [list(life.births)]
    for i in range(life.ages - 1):
        row = [0] * life.ages
        row[i] = life.stays[i]
        table.append(row)
    return table


def row_times(row, numbers):
    return sum([a * b for a, b in zip(row, numbers)])


def table_times(table, numbers):
    return [row_times(row, numbers) for row in table]


def rests(numbers, q):
    return [number % q for number in numbers]


def column(table, k):
    return [row[k] for row in table]


def squared(table, q):
    columns = [column(table, k) for k in range(len(table))]
    return [rests(table_times(columns, row), q) for row in table]


def numbers_after(life, t, x):
    """d^t times the herd's numbers after t years."""
    table = year_table(life)
    numbers = list(x)
    for year in range(t):
        numbers = table_times(table, numbers)
    return numbers


def rests_after(life, t, q, x):
    """The rests by q of what numbers_after would give, for more years than could be gone through one by one."""
    table = year_table(life)
    numbers = rests(x, q)
    years = t
    # The table stands for 1, 2, 4, ... years in turn; those that make up t are applied.
    while years > 0:
        if years % 2 == 1:
            numbers = rests(table_times(table, numbers), q)
        table = squared(table, q)
        years = years // 2
    return numbers
