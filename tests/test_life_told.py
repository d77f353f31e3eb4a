import unittest

from support import (AGE, GREATEST, LEAST, LIVES, NET, RHYTHM, SPARE, STEADY, TOLD, YEARS, after, ask, ask_of,
                     births_in, far, fate, leaned, life, reached, share_at, value, worth)

FIRST = (5, [1, 2, 3], [4, 5])
FIRST_TOLD = [0, 5, 3, 1, 2, 3, 4, 5]


class Taken(unittest.TestCase):
    def taken(self, d, births, stays):
        told = [0, d, len(births)] + births + stays
        self.assertEqual(ask(life(d, births, stays), TOLD), [[0], told])

    def test_lives(self):
        for a_life in LIVES:
            self.taken(*a_life)

    def test_edges_of_d(self):
        self.taken(1, [1, 2], [1])
        self.taken(20, [1, 2], [1])

    def test_edges_of_births(self):
        self.taken(3, [0], [])
        self.taken(3, [1000], [])
        self.taken(3, [0, 1000], [2])
        self.taken(3, [1000, 0], [2])

    def test_edges_of_stays(self):
        self.taken(3, [4, 5, 6], [0, 3])
        self.taken(20, [4, 5, 6], [20, 0])

    def test_one_to_eight_ages(self):
        for ages in range(1, 9):
            self.taken(9, list(range(10, 10 + ages)), list(range(ages - 1)))

    def test_second_life_takes_the_place_of_the_first(self):
        split = ask(life(*FIRST), TOLD, life(1, [7], []), TOLD, NET)
        self.assertEqual(split, [[0], FIRST_TOLD, [0], [0, 1, 1, 7], [7, 1]])

    def test_second_life_may_have_more_ages(self):
        split = ask(life(1, [7], []), life(*FIRST), TOLD, after(0, [1, 2, 3]), after(0, [1]))
        self.assertEqual(split, [[0], [0], FIRST_TOLD, [1, 1, 2, 3], [-4]])


class Refused(unittest.TestCase):
    def refused(self, number, d, births, stays):
        self.assertEqual(ask(life(d, births, stays), TOLD), [[number], [-1]])
        split = ask(life(*FIRST), life(d, births, stays), TOLD, after(0, [1, 2, 3]))
        self.assertEqual(split, [[0], [number], FIRST_TOLD, [1, 1, 2, 3]])

    def test_d(self):
        for d in (0, 21, -1, LEAST, GREATEST):
            self.refused(-3, d, [1, 2], [0])

    def test_d_ahead_of_lists(self):
        for d in (0, 21, LEAST, GREATEST):
            self.refused(-3, d, [], [])
            self.refused(-3, d, [1001], [])
            self.refused(-3, d, [1, 2], [30])
            self.refused(-3, d, [-1] * 30, [-1] * 30)

    def test_length_of_births(self):
        self.refused(-4, 3, [], [])
        self.refused(-4, 3, [1] * 9, [1] * 8)
        self.refused(-4, 3, [1] * 30, [1] * 29)
        self.refused(-4, 3, [1] * 30, [1] * 30)

    def test_members_of_births(self):
        for number in (-1, 1001, LEAST, GREATEST):
            self.refused(-4, 3, [number], [])
            self.refused(-4, 3, [number, 1, 1], [1, 1])
            self.refused(-4, 3, [1, 1, number], [1, 1])

    def test_length_of_stays(self):
        self.refused(-4, 3, [1], [1])
        self.refused(-4, 3, [1, 1], [])
        self.refused(-4, 3, [1, 1], [1, 1])
        self.refused(-4, 3, [1] * 8, [1] * 6)
        self.refused(-4, 3, [1] * 8, [1] * 8)
        self.refused(-4, 3, [1] * 8, [1] * 30)

    def test_members_of_stays(self):
        for number in (-1, 4, LEAST, GREATEST):
            self.refused(-4, 3, [1, 1], [number])
            self.refused(-4, 3, [1, 1, 1], [number, 1])
            self.refused(-4, 3, [1, 1, 1], [1, number])
        self.refused(-4, 20, [1, 1], [21])
        self.refused(-4, 1, [1, 1], [2])


class WithoutLife(unittest.TestCase):
    def test_minus_one_of_all_but_life(self):
        calls = [TOLD, after(1, [1]), far(1, 1, [1]), NET, fate([1]), value(0), worth([1]), YEARS]
        calls += [share_at(0), leaned(0), AGE, SPARE, STEADY, RHYTHM, births_in(0), reached(0)]
        self.assertEqual(ask(*calls), [[-1]] * len(calls))

    def test_minus_one_ahead_of_others(self):
        calls = [
            after(41, []), after(-1, [1] * 30), after(0, []), after(40, [10001]),
            far(-1, 0, []), far(0, 0, [1]), far(0, 1, [-1]),
            fate([]), fate([-1]), value(-1), value(GREATEST), value(LEAST), worth([]), worth([GREATEST]),
        ]
        for number in (-1, 8, 40, 41, LEAST, GREATEST):
            calls += [share_at(number), leaned(number), births_in(number), reached(number)]
        self.assertEqual(ask(*calls), [[-1]] * len(calls))

    def test_life_comes_later(self):
        split = ask(TOLD, NET, life(*FIRST), TOLD)
        self.assertEqual(split, [[-1], [-1], [0], FIRST_TOLD])

    def test_refused_life_is_none(self):
        self.assertEqual(ask(life(0, [1], []), NET, life(1, [], []), YEARS), [[-3], [-1], [-4], [-1]])
        self.assertEqual(ask(life(0, [1], []), SPARE, life(1, [], []), reached(0)), [[-3], [-1], [-4], [-1]])


class NothingChanges(unittest.TestCase):
    def test_refusals_leave_the_life(self):
        calls = [
            after(41, [1, 2, 3]), after(1, [1, 2]), after(40, [1, 2, 3]), far(-1, 1, [1, 2, 3]),
            far(1, 1, []), fate([1]), value(3), worth([10001, 0, 0]), share_at(3), leaned(2), births_in(41),
            births_in(40), reached(3),
        ]
        refusals = [[-3], [-4], [-5], [-3], [-4], [-4], [-3], [-4], [-3], [-3], [-3], [-5], [-3]]
        self.assertEqual(len(calls), len(refusals))
        for call, refusal in zip(calls, refusals):
            self.assertEqual(ask_of(FIRST, TOLD, call, TOLD), [FIRST_TOLD, refusal, FIRST_TOLD])

    def test_answers_leave_the_life(self):
        x = [3, 2, 1]
        calls = [after(3, x), far(99, 7, x), NET, fate(x), value(1), worth(x), YEARS]
        calls += [share_at(1), leaned(1), AGE, SPARE, STEADY, RHYTHM, births_in(3), reached(2)]
        for call in calls:
            split = ask_of(FIRST, TOLD, call, TOLD, call)
            self.assertEqual(split[0], FIRST_TOLD)
            self.assertEqual(split[2], FIRST_TOLD)
            self.assertEqual(split[1], split[3])
            self.assertGreaterEqual(split[1][0], 0)


if __name__ == "__main__":
    unittest.main()
