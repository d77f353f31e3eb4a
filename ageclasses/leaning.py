"""What a herd leans on, how much it could spare, and how its ages stand to one another."""

from ageclasses.lives import Life, births_to_come, share_reaching
from ageclasses.ratios import added, common_divisor_of, fraction, over, power, times


def share_of_births(life, i):
    """How much of a newborn's births to come falls to age i; there must be some to come."""
    at_that_age = times(fraction(life.births[i], life.d), share_reaching(life, i))
    return over(at_that_age, births_to_come(life, 0))


def shares_above(life, j):
    """How much of a newborn's births to come leans on age j being lived through."""
    return added([share_of_births(life, i) for i in range(j + 1, life.ages)])


def mean_age_at_births(life):
    """Each age counts at its end, the first as 1."""
    return added([times(fraction(i + 1, 1), share_of_births(life, i)) for i in range(life.ages)])


def lessened(life, k):
    """All births and stays are (d - k) / d of what they were: in parts of d times d they stay whole."""
    left = life.d - k
    births = [left * number for number in life.births]
    stays = [left * number for number in life.stays]
    return Life(life.d * life.d, births, stays)


def lasts(life):
    net = births_to_come(life, 0)
    return net[0] >= net[1]


def bearable_takes(life):
    """Each k from 0 to d for which the lessened life still lasts, in order."""
    return [k for k in range(life.d + 1) if lasts(lessened(life, k))]


def ages_to_one_another(life):
    """The least whole numbers that are to one another as the shares that come to each age."""
    shares = [share_reaching(life, i) for i in range(life.ages)]
    # Every share's lower number divides this, so nothing is left over.
    scale = power(life.d, life.ages - 1)
    numbers = [scale * upper // lower for upper, lower in shares]
    divisor = common_divisor_of(numbers)
    return [number // divisor for number in numbers]


def bears(life, i):
    return life.births[i] > 0 and share_reaching(life, i)[0] > 0


def births_rhythm(life):
    """Births follow one another by sums of the ages that bear, counted from 1: this divides them all."""
    return common_divisor_of([i + 1 for i in range(life.ages) if bears(life, i)])
