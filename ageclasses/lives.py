"""A life, and what one that leads it has to expect."""

from ageclasses.ratios import added, fraction, plus, times


class Life:
    """What is born to each age and what share of each age lives on, both in parts of d."""

    def __init__(self, d, births, stays):
        self.d = d
        self.births = births
        self.stays = stays
        self.ages = len(births)


def share_reaching(life, i):
    """The share of the newborn that come to age i."""
    share = fraction(1, 1)
    for k in range(i):
        share = times(share, fraction(life.stays[k], life.d))
    return share


def years_to_live(life):
    return added([share_reaching(life, i) for i in range(life.ages)])


def births_to_come(life, i):
    """Of one of age i."""
    last = life.ages - 1
    coming = fraction(life.births[last], life.d)
    # From the last age down, each age needs only what the next one has to come.
    for k in range(last - 1, i - 1, -1):
        later = times(fraction(life.stays[k], life.d), coming)
        coming = plus(fraction(life.births[k], life.d), later)
    return coming


def herd_births_to_come(life, x):
    return added([times(fraction(number, 1), births_to_come(life, i)) for i, number in enumerate(x)])
