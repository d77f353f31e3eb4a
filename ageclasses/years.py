"""What the years make of a herd."""


def year_table(life):
    """What a year does, times d so that it stays whole: a row for each age of the year after."""
    table = [list(life.births)]
    for i in range(life.ages - 1):
        row = [0] * life.ages
        row[i] = life.stays[i]
        table.append(row)
    return table


def row_times(row, numbers):
    return sum([a * b for a, b in zip(row, numbers)])


def table_times(table, numbers):
    return [row_times(row, numbers) for row in table]


def rests(numbers, q):
    return [number % q for number in numbers]


def column(table, k):
    return [row[k] for row in table]


def squared(table, q):
    columns = [column(table, k) for k in range(len(table))]
    return [rests(table_times(columns, row), q) for row in table]


def numbers_after(life, t, x):
    """d^t times the herd's numbers after t years."""
    table = year_table(life)
    numbers = list(x)
    for year in range(t):
        numbers = table_times(table, numbers)
    return numbers


def rests_after(life, t, q, x):
    """The rests by q of what numbers_after would give, for more years than could be gone through one by one."""
    table = year_table(life)
    numbers = rests(x, q)
    years = t
    # The table stands for 1, 2, 4, ... years in turn; those that make up t are applied.
    while years > 0:
        if years % 2 == 1:
            numbers = rests(table_times(table, numbers), q)
        table = squared(table, q)
        years = years // 2
    return numbers


def newborn_after(life, t):
    """d^t times the number of age 0, t years after a herd of one of age 0 alone."""
    one = [1] + [0] * (life.ages - 1)
    return numbers_after(life, t, one)[0]
