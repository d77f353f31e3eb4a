import contextlib
import io
import random
import sys
import unittest

from support import (AGE, GREATEST, LEAST, LIMIT, NET, RHYTHM, SPARE, STEADY, TOLD, YEARS, after, ask, births_in, far,
                     fate, leaned, life, random_herd, random_life, random_steady_life, reached, share_at, value, worth)

import ageclasses.herd
from ageclasses.herd import answers


def calls_after_a_life(source, a_life):
    """One call of each kind but life, some of them refused."""
    x = random_herd(source, a_life)
    wrong = source.choice([x + [1], x[1:], [-1] + x[1:], x[:-1] + [10001]])
    i = source.randint(-1, 8)
    t = source.randint(-1, 41)
    return [
        TOLD, after(t, x), far(source.randint(-1, LIMIT), source.randint(0, 97), x), NET,
        fate(source.choice([x, wrong])), value(i), worth(source.choice([x, wrong])), YEARS,
        share_at(i), leaned(i), AGE, SPARE, STEADY, RHYTHM, births_in(t), reached(i),
    ]


def mixed_calls(seed):
    """400 calls of all kinds, taken and refused, the first few without a life."""
    source = random.Random(seed)
    calls = calls_after_a_life(source, random_life(source))
    while len(calls) < 400:
        ages = source.randint(1, 8)
        a_life = source.choice([random_life(source), random_steady_life(source, ages)])
        some = calls_after_a_life(source, a_life) + [life(0, [], []), life(5, [1001], [])]
        source.shuffle(some)
        calls += [life(*a_life)] + some
    return calls[:400]


def long_list():
    return [number for call in mixed_calls(41) for number in call]


class Layout(unittest.TestCase):
    def test_counts_ahead_of_answers(self):
        calls = [1] + [0, 2, 2, 1, 6, 1, 1] + [1] + [2, 1, 2, 4, 2] + [3, 1, 7, 2, 4, 2] + [4]
        calls += [5, 2, 1, 0] + [6, 1] + [7, 2, 1, 1] + [8] + [5, 0] + [0, 21, 0, 0]
        expected = [1, -1] + [1, 0] + [6, 0, 2, 2, 1, 6, 1] + [3, 2, 16, 4] + [3, 0, 2, 4] + [2, 2, 1]
        expected += [1, 2] + [2, 3, 1] + [2, 5, 1] + [2, 3, 2] + [1, -4] + [1, -3]
        self.assertEqual(answers(calls), expected)

    def test_all_kinds_in_one_list(self):
        # d = 4, births 1, 3, stay 2: R is 5/8. Then R just 1, by births of 1 and 6.
        calls = [9, 0] + [0, 4, 2, 1, 3, 1, 2] + [9, 0] + [9, 2] + [10, 0] + [10, 1] + [11] + [12] + [13] + [14]
        calls += [15, 2] + [15, 41] + [15, 40] + [16, 1] + [16, -1] + [4] + [1]
        calls += [0, 4, 2, 1, 6, 1, 2] + [13] + [12] + [2, 0, 2, 5, 5] + [0, 2, 1, 0, 0] + [11] + [14]
        expected = [1, -1] + [1, 0] + [2, 2, 5] + [1, -3] + [2, 3, 5] + [1, -3] + [2, 8, 5] + [1, -6] + [1, -6] + [1, 1]
        expected += [2, 7, 16] + [1, -3] + [1, -5] + [2, 1, 2] + [1, -3] + [2, 5, 8] + [6, 0, 4, 2, 1, 3, 2]
        expected += [1, 0] + [3, 0, 2, 1] + [1, 0] + [3, 1, 5, 5] + [1, 0] + [1, -6] + [1, 0]
        self.assertEqual(answers(calls), expected)

    def test_one_call(self):
        self.assertEqual(answers([1]), [1, -1])
        self.assertEqual(answers([0, 1, 1, 0, 0]), [1, 0])

    def test_found_by_its_full_name(self):
        self.assertEqual(ageclasses.herd.answers([8]), [1, -1])

    def test_lists_of_thirty(self):
        full = [LEAST, GREATEST] * 15
        calls = life(5, full, full) + life(1, [1], []) + after(1, full) + far(1, 1, full) + fate(full) + worth(full)
        self.assertEqual(answers(calls + TOLD), [1, -4, 1, 0] + [1, -4] * 4 + [4, 0, 1, 1, 1])

    def test_mixed_calls_one_by_one(self):
        for seed in (42, 43, 44):
            calls = mixed_calls(seed)
            self.assertEqual(len(calls), 400)
            split = ask(*calls)
            self.assertEqual(len(split), 400)
            held = []
            for call, told in zip(calls, split):
                # A life that was refused is none: what is answered hangs on the last that was taken.
                self.assertEqual(ask(*held, call)[-1], told, (held, call))
                if call[0] == 0 and told == [0]:
                    held = [call]
            self.assertEqual({call[0] for call in calls}, set(range(17)))
            self.assertEqual({told[0] for told in split if told[0] < 0}, {-1, -3, -4, -5, -6})

    def test_numbers_of_answers_are_plain(self):
        given = answers(long_list())
        self.assertIsInstance(given, list)
        self.assertEqual({kind.__name__ for kind in map(type, given)}, {"int"})


class NothingKept(unittest.TestCase):
    def test_calls_are_not_changed(self):
        calls = long_list()
        before = list(calls)
        answers(calls)
        self.assertEqual(calls, before)

    def test_second_time_as_the_first(self):
        calls = long_list()
        self.assertEqual(answers(calls), answers(calls))

    def test_life_is_not_kept(self):
        self.assertEqual(ask(life(1, [1], []), TOLD), [[0], [0, 1, 1, 1]])
        self.assertEqual(ask(TOLD), [[-1]])

    def test_given_list_is_the_askers_own(self):
        calls = life(3, [1, 2], [1]) + TOLD
        given = answers(calls)
        kept = list(given)
        given.clear()
        self.assertEqual(answers(calls), kept)

    def test_nothing_printed(self):
        out = io.StringIO()
        err = io.StringIO()
        with contextlib.redirect_stdout(out), contextlib.redirect_stderr(err):
            answers(long_list())
        self.assertEqual(out.getvalue() + err.getvalue(), "")


class Sizes(unittest.TestCase):
    def test_greatest_list(self):
        a_life = (20, [1000] * 8, [20] * 7)
        calls = life(*a_life) + far(LIMIT, 10 ** 9, [10000] * 8) * 399
        given = answers(calls)
        self.assertEqual(given[:2], [1, 0])
        self.assertEqual(given[2:12] * 399, given[2:])

    def test_greatest_list_of_the_later_calls(self):
        a_life = (20, [999] * 8, [19] * 7)
        some = share_at(7) + leaned(0) + AGE + SPARE + STEADY + RHYTHM + births_in(9) + reached(7)
        calls = life(*a_life) + some * 49
        given = answers(calls)
        once = answers(life(*a_life) + some)
        self.assertEqual(given, once[:2] + once[2:] * 49)

    def test_shallow_recursion(self):
        calls = long_list()
        expected = answers(calls)
        deep = sys.getrecursionlimit()
        depth = 0
        frame = sys._getframe()
        while frame is not None:
            depth += 1
            frame = frame.f_back
        sys.setrecursionlimit(depth + 40)
        try:
            given = answers(calls)
        finally:
            sys.setrecursionlimit(deep)
        self.assertEqual(given, expected)


if __name__ == "__main__":
    unittest.main()
