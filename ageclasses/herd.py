"""The calls: they are read from one list, refused or answered, and the answers given back as one list."""

from ageclasses.leaning import ages_to_one_another, bearable_takes, births_rhythm
from ageclasses.leaning import mean_age_at_births, share_of_births, shares_above
from ageclasses.lives import Life, births_to_come, herd_births_to_come, share_reaching, years_to_live
from ageclasses.ratios import power
from ageclasses.years import newborn_after, numbers_after, rests_after

NO_LIFE = -1
WHOLE_OUT_OF_RANGE = -3
LIST_OUT_OF_RANGE = -4
TOO_GREAT = -5
NET_UNFIT = -6

MOST_PARTS = 20
MOST_AGES = 8
MOST_BIRTHS = 1000
MOST_OF_AN_AGE = 10000
MOST_YEARS = 40
MOST_FAR_YEARS = 1000000000000000000
MOST_DIVISOR = 1000000000
GREATEST_TOLD = 1000000000000000000

LIFE_CALL = 0


class Reader:
    """Goes through the list of calls once, from its beginning to its end."""

    def __init__(self, numbers):
        self.numbers = numbers
        self.place = 0

    def at_end(self):
        return self.place >= len(self.numbers)

    def take(self, many):
        start = self.place
        self.place = start + many
        return self.numbers[start:self.place]

    def take_one(self):
        return self.take(1)[0]

    def take_rows(self, many):
        rows = []
        for k in range(many):
            length = self.take_one()
            rows.append(self.take(length))
        return rows


def within(number, least, greatest):
    return least <= number and number <= greatest


def all_within(numbers, least, greatest):
    return all([within(number, least, greatest) for number in numbers])


def is_herd(life, x):
    return len(x) == life.ages and all_within(x, 0, MOST_OF_AN_AGE)


def answer_life(d, births, stays):
    if not within(d, 1, MOST_PARTS):
        return [WHOLE_OUT_OF_RANGE]
    if not within(len(births), 1, MOST_AGES) or not all_within(births, 0, MOST_BIRTHS):
        return [LIST_OUT_OF_RANGE]
    if len(stays) != len(births) - 1 or not all_within(stays, 0, d):
        return [LIST_OUT_OF_RANGE]
    return [0]


def answer_told(life, wholes, rows):
    return [0, life.d, life.ages] + life.births + life.stays


def answer_after(life, wholes, rows):
    t = wholes[0]
    x = rows[0]
    if not within(t, 0, MOST_YEARS):
        return [WHOLE_OUT_OF_RANGE]
    if not is_herd(life, x):
        return [LIST_OUT_OF_RANGE]
    answer = [power(life.d, t)] + numbers_after(life, t, x)
    if max(answer) > GREATEST_TOLD:
        return [TOO_GREAT]
    return answer


def answer_far(life, wholes, rows):
    t = wholes[0]
    q = wholes[1]
    x = rows[0]
    if not within(t, 0, MOST_FAR_YEARS) or not within(q, 1, MOST_DIVISOR):
        return [WHOLE_OUT_OF_RANGE]
    if not is_herd(life, x):
        return [LIST_OUT_OF_RANGE]
    return [0] + rests_after(life, t, q, x)


def answer_net(life, wholes, rows):
    return list(births_to_come(life, 0))


def fate_of(net, worth):
    if worth[0] == 0 or net[0] < net[1]:
        return 0
    if net[0] > net[1]:
        return 2
    return 1


def answer_fate(life, wholes, rows):
    x = rows[0]
    if not is_herd(life, x):
        return [LIST_OUT_OF_RANGE]
    return [fate_of(births_to_come(life, 0), herd_births_to_come(life, x))]


def answer_value(life, wholes, rows):
    i = wholes[0]
    if not within(i, 0, life.ages - 1):
        return [WHOLE_OUT_OF_RANGE]
    return list(births_to_come(life, i))


def answer_worth(life, wholes, rows):
    x = rows[0]
    if not is_herd(life, x):
        return [LIST_OUT_OF_RANGE]
    return list(herd_births_to_come(life, x))


def answer_years(life, wholes, rows):
    return list(years_to_live(life))


def no_births_to_come(life):
    return births_to_come(life, 0) == (0, 1)


def answer_share(life, wholes, rows):
    i = wholes[0]
    if not within(i, 0, life.ages - 1):
        return [WHOLE_OUT_OF_RANGE]
    if no_births_to_come(life):
        return [NET_UNFIT]
    return list(share_of_births(life, i))


def answer_leaned(life, wholes, rows):
    j = wholes[0]
    if not within(j, 0, life.ages - 2):
        return [WHOLE_OUT_OF_RANGE]
    if no_births_to_come(life):
        return [NET_UNFIT]
    return list(shares_above(life, j))


def answer_age(life, wholes, rows):
    if no_births_to_come(life):
        return [NET_UNFIT]
    return list(mean_age_at_births(life))


def answer_spare(life, wholes, rows):
    takes = bearable_takes(life)
    if len(takes) == 0:
        return [NET_UNFIT]
    return [max(takes)]


def answer_steady(life, wholes, rows):
    if births_to_come(life, 0) != (1, 1):
        return [NET_UNFIT]
    return [0] + ages_to_one_another(life)


def answer_rhythm(life, wholes, rows):
    return [births_rhythm(life)]


def answer_births(life, wholes, rows):
    t = wholes[0]
    if not within(t, 0, MOST_YEARS):
        return [WHOLE_OUT_OF_RANGE]
    answer = [newborn_after(life, t), power(life.d, t)]
    if max(answer) > GREATEST_TOLD:
        return [TOO_GREAT]
    return answer


def answer_reached(life, wholes, rows):
    i = wholes[0]
    if not within(i, 0, life.ages - 1):
        return [WHOLE_OUT_OF_RANGE]
    return list(share_reaching(life, i))


# For each call, by its number: how many whole numbers and how many lists it has.
SHAPES = {
    0: (1, 2),
    1: (0, 0),
    2: (1, 1),
    3: (2, 1),
    4: (0, 0),
    5: (0, 1),
    6: (1, 0),
    7: (0, 1),
    8: (0, 0),
    9: (1, 0),
    10: (1, 0),
    11: (0, 0),
    12: (0, 0),
    13: (0, 0),
    14: (0, 0),
    15: (1, 0),
    16: (1, 0),
}

# The life call is not here: it alone is done without a life, and changes which one is held.
ANSWERING = {
    1: answer_told,
    2: answer_after,
    3: answer_far,
    4: answer_net,
    5: answer_fate,
    6: answer_value,
    7: answer_worth,
    8: answer_years,
    9: answer_share,
    10: answer_leaned,
    11: answer_age,
    12: answer_spare,
    13: answer_steady,
    14: answer_rhythm,
    15: answer_births,
    16: answer_reached,
}


def answer_by(life, number, wholes, rows):
    if life is None:
        return [NO_LIFE]
    answering = ANSWERING[number]
    return answering(life, wholes, rows)


def answers(calls):
    """Answers the calls one behind another; ahead of each answer stands how many numbers it has."""
    reader = Reader(calls)
    life = None
    given = []
    while not reader.at_end():
        number = reader.take_one()
        shape = SHAPES[number]
        wholes = reader.take(shape[0])
        rows = reader.take_rows(shape[1])
        if number == LIFE_CALL:
            answer = answer_life(wholes[0], rows[0], rows[1])
            if answer == [0]:
                life = Life(wholes[0], rows[0], rows[1])
        else:
            answer = answer_by(life, number, wholes, rows)
        given.append(len(answer))
        given.extend(answer)
    return given
