import contextlib
import io
import random
import sys
import unittest

from support import (GREATEST, LEAST, LIMIT, LIVES, NET, TOLD, YEARS, after, ask, far, fate, life, random_herd,
                     random_life, value, worth)

import ageclasses.herd
from ageclasses.herd import answers


def long_list():
    """400 calls: all kinds of them, taken and refused."""
    source = random.Random(41)
    calls = [TOLD]
    while len(calls) < 400:
        a_life = random_life(source)
        x = random_herd(source, a_life)
        t = source.randint(-1, 41)
        calls += [life(*a_life), TOLD, after(t, x), far(source.randint(0, LIMIT), 97, x), NET]
        calls += [fate(x), value(source.randint(-1, 8)), worth(x), YEARS, fate(x + [1]), life(0, [], [])]
    return [number for call in calls[:400] for number in call]


class Layout(unittest.TestCase):
    def test_counts_ahead_of_answers(self):
        calls = [1] + [0, 2, 2, 1, 6, 1, 1] + [1] + [2, 1, 2, 4, 2] + [3, 1, 7, 2, 4, 2] + [4]
        calls += [5, 2, 1, 0] + [6, 1] + [7, 2, 1, 1] + [8] + [5, 0] + [0, 21, 0, 0]
        expected = [1, -1] + [1, 0] + [6, 0, 2, 2, 1, 6, 1] + [3, 2, 16, 4] + [3, 0, 2, 4] + [2, 2, 1]
        expected += [1, 2] + [2, 3, 1] + [2, 5, 1] + [2, 3, 2] + [1, -4] + [1, -3]
        self.assertEqual(answers(calls), expected)

    def test_one_call(self):
        self.assertEqual(answers([1]), [1, -1])
        self.assertEqual(answers([0, 1, 1, 0, 0]), [1, 0])

    def test_found_by_its_full_name(self):
        self.assertEqual(ageclasses.herd.answers([8]), [1, -1])

    def test_lists_of_thirty(self):
        full = [LEAST, GREATEST] * 15
        calls = life(5, full, full) + life(1, [1], []) + after(1, full) + far(1, 1, full) + fate(full) + worth(full)
        self.assertEqual(answers(calls + TOLD), [1, -4, 1, 0] + [1, -4] * 4 + [4, 0, 1, 1, 1])

    def test_numbers_of_answers_are_plain(self):
        given = answers(long_list())
        self.assertIsInstance(given, list)
        self.assertEqual({kind.__name__ for kind in map(type, given)}, {"int"})


class NothingKept(unittest.TestCase):
    def test_calls_are_not_changed(self):
        calls = long_list()
        before = list(calls)
        answers(calls)
        self.assertEqual(calls, before)

    def test_second_time_as_the_first(self):
        calls = long_list()
        self.assertEqual(answers(calls), answers(calls))

    def test_life_is_not_kept(self):
        self.assertEqual(ask(life(1, [1], []), TOLD), [[0], [0, 1, 1, 1]])
        self.assertEqual(ask(TOLD), [[-1]])

    def test_given_list_is_the_askers_own(self):
        calls = life(3, [1, 2], [1]) + TOLD
        given = answers(calls)
        kept = list(given)
        given.clear()
        self.assertEqual(answers(calls), kept)

    def test_nothing_printed(self):
        out = io.StringIO()
        err = io.StringIO()
        with contextlib.redirect_stdout(out), contextlib.redirect_stderr(err):
            answers(long_list())
        self.assertEqual(out.getvalue() + err.getvalue(), "")


class Sizes(unittest.TestCase):
    def test_greatest_list(self):
        a_life = (20, [1000] * 8, [20] * 7)
        calls = life(*a_life) + far(LIMIT, 10 ** 9, [10000] * 8) * 399
        given = answers(calls)
        self.assertEqual(given[:2], [1, 0])
        self.assertEqual(given[2:12] * 399, given[2:])

    def test_shallow_recursion(self):
        calls = long_list()
        expected = answers(calls)
        deep = sys.getrecursionlimit()
        depth = 0
        frame = sys._getframe()
        while frame is not None:
            depth += 1
            frame = frame.f_back
        sys.setrecursionlimit(depth + 40)
        try:
            given = answers(calls)
        finally:
            sys.setrecursionlimit(deep)
        self.assertEqual(given, expected)


if __name__ == "__main__":
    unittest.main()
