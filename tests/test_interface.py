"""How calls and answers are written, and what answers may not do."""

import contextlib
import io
import sys
import unittest
from unittest import mock

from lyingsensors.sensors import answers

# All twenty calls, each on a row of its own; then some refusals, and a room begun anew.
CALLS = [
    0, 2, 1, 0, 100, 1, 2,
    1, 0, 50, 60,
    1, 1, 10, 20,
    2, 1,
    3,
    4, 30,
    5, 22,
    6, 1, 3, 20, 22, 24,
    7,
    8,
    9,
    10, 0,
    11, 1,
    12, 0, 30,
    13, 9, 62,
    14, 0, 50, 55,
    1, 0, 50, 55,
    15, 0,
    16,
    17, 0,
    18,
    19, 0,
    17, 1,
    1, 5, 0, 0,
    10, 2,
    11, 1001,
    12, 2, 1,
    13, 2, 1,
    14, 0, 2, 1,
    15, 0,
    17, -1,
    19, 0,
    0, 1, 0, 3, 4, 0, 0,
    3,
    18,
]
ANSWERS = [
    1, 0,
    2, 0, 2,
    2, 0, 2,
    2, 0, 1,
    6, 0, 2, 9, 22, 49, 62,
    2, 0, 0,
    4, 0, 1, 20, 22,
    3, 0, 0, 2,
    1, 0,
    3, 0, 1, 1,
    3, 0, 1, 2,
    6, 0, 2, 10, 20, 50, 60,
    6, 0, 2, 8, 24, 48, 64,
    2, 0, 0,
    3, 0, 1, 1,
    6, 0, 2, 9, 22, 50, 55,
    2, 0, 2,
    2, 0, 0,
    3, 0, 9, 55,
    7, 0, 0, 50, 60, 1, 10, 20,
    3, 0, 22, 20,
    1, 0,
    1, 0,
    1, -1,
    1, -1,
    1, -1,
    1, -1,
    1, -1,
    1, -1,
    1, -4,
    1, -1,
    1, -4,
    1, 0,
    4, 0, 1, 3, 4,
    2, 0, 2,
]


class ReadOnly(list):
    """A list that no one may change."""


def refuse(*told):
    raise AssertionError("what is handed in was changed")


for name in [
        "__setitem__", "__delitem__", "__iadd__", "__imul__", "append", "clear", "extend", "insert", "pop", "remove",
        "reverse", "sort"]:
    setattr(ReadOnly, name, refuse)


class InterfaceTest(unittest.TestCase):
    def test_the_answers_of_several_calls(self):
        self.assertEqual(answers(list(CALLS)), ANSWERS)

    def test_a_single_call(self):
        self.assertEqual(answers([3]), [1, -7])
        self.assertEqual(answers([0, 1, 0, 0, 0, 0, 0]), [1, 0])

    def test_a_refused_row_is_passed_over(self):
        self.assertEqual(answers([6, 0, 3, 0, 0, 0, 9]), [1, -7, 1, -7])
        self.assertEqual(
            answers([0, 1, 0, 0, 5, 0, 0, 6, 2, 3, 9, 9, 9, 6, 1, 0, 6, 0, 0, 6, 0, 1, 5]),
            [1, 0, 1, -1, 3, 0, 0, -1, 3, 0, 0, 0, 2, 0, 1])

    def test_each_call_takes_just_its_own_numbers(self):
        counts = [6, 3, 1, 0, 1, 1, 2, 0, 0, 0, 1, 1, 2, 2, 3, 1, 0, 1, 0, 1]
        for call, count in enumerate(counts):
            refused = [call] + [0] * count
            told = [1, -1] if call == 0 else [1, -7]
            self.assertEqual(answers(refused + refused + [16]), told + told + [1, -7], call)

    def test_all_are_whole_numbers_in_a_list(self):
        told = answers(list(CALLS))
        self.assertIs(type(told), list)
        self.assertEqual({type(number) for number in told}, {int})

    def test_what_is_handed_in_is_not_changed(self):
        handed = ReadOnly(CALLS)
        self.assertEqual(answers(handed), ANSWERS)
        self.assertEqual(handed, CALLS)

    def test_nothing_is_kept(self):
        handed = list(CALLS)
        first = answers(handed)
        self.assertEqual(answers([3]), [1, -7])
        second = answers(handed)
        self.assertEqual(first, second)
        first.append(5)
        self.assertEqual(answers(handed), second)

    def test_nothing_is_printed_read_or_imported(self):
        out = io.StringIO()
        with contextlib.redirect_stdout(out), contextlib.redirect_stderr(out):
            with mock.patch("builtins.open", refuse), mock.patch("builtins.input", refuse):
                with mock.patch("builtins.__import__", refuse):
                    told = answers(list(CALLS))
        self.assertEqual(told, ANSWERS)
        self.assertEqual(out.getvalue(), "")

    def test_calls_do_not_nest_deeply(self):
        calls = [0, 9, 4, 0, 100, 1, 2, 2, 99, 5, 50, 6, 0, 200] + [5] * 200
        calls += [10, 0, 11, 1000, 13, 0, 100, 18, 1, 0, 5, 6, 14, 1, 5, 6, 19, 0, 17, 99] + [3] * 380
        depth = 0
        frame = sys._getframe()
        while frame is not None:
            depth += 1
            frame = frame.f_back
        limit = sys.getrecursionlimit()
        sys.setrecursionlimit(depth + 30)
        try:
            told = answers(calls)
        finally:
            sys.setrecursionlimit(limit)
        self.assertEqual(told[-5:], [4, 0, 1, 0, 100])


if __name__ == "__main__":
    unittest.main()
