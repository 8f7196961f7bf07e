"""Lists of 400 calls in the largest rooms end in moderate time, with the answers they should have."""

import time
import unittest

from lyingsensors.sensors import answers
from tests.lines import taken_apart, written

BIG = 10 ** 9
MODERATE = 10


def timed(calls):
    start = time.perf_counter()
    told = taken_apart(answers(written(calls)))
    return told, time.perf_counter() - start


class LongTest(unittest.TestCase):
    def moderate(self, calls):
        self.assertEqual(len(calls), 400)
        told, seconds = timed(calls)
        self.assertLess(seconds, MODERATE)
        self.assertEqual(len(told), 400)
        return told

    def test_reports_at_every_tick(self):
        calls = [("begin", 9, 4, -BIG, BIG, 5, 5)]
        for tick in range(99):
            for turn in range(3):
                sensor = (3 * tick + turn) % 9
                shift = 1000 * (sensor + 1) if sensor < 4 else 0
                calls.append(("report", sensor, shift - 10 - tick, shift + 10 + tick))
            calls.append(("tick", 1))
        calls += [("places",), ("liars",), ("sets",)]
        told = self.moderate(calls)
        self.assertEqual(told[-4:], [[0, 99], [0, 1, -113, 113], [0, 0, 1, 2, 3], [0, 15]])

    def test_witnesses_of_the_longest_course(self):
        calls = [("begin", 9, 4, -BIG, BIG, 0, 10 ** 7), ("report", 8, 0, 0), ("tick", 99)]
        calls += [("witness", 99 * 10 ** 7)] * 397
        told = self.moderate(calls)
        self.assertEqual(told[-1], [0, 15] + [tick * 10 ** 7 for tick in range(100)])

    def test_each_other_call_at_the_last_tick(self):
        start = [("begin", 9, 4, 0, 100, 1, 1), ("tick", 99)]
        for call, answer in [
                (("places",), [0, 1, 0, 100]), (("can", 50), [0, 1]), (("check", 15, [50] * 31), [0, 0, 31]),
                (("liars",), [0]), (("fewest",), [0, 0, 0])]:
            told = self.moderate(start + [call] * 398)
            self.assertEqual(told[2:], [answer] * 398)
        told = self.moderate(start + [("sets",)] * 398)
        self.assertEqual(len(told[-1]), 127)

    def test_rooms_begun_again_and_again(self):
        told = self.moderate([("begin", 9, 4, 0, 100, 1, 1), ("tick", 99), ("report", 0, 5, 6), ("sets",)] * 100)
        self.assertEqual(told[2::4], [[0, 126]] * 100)


if __name__ == "__main__":
    unittest.main()
