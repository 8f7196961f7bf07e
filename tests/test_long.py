"""Lists of 400 calls in the largest rooms end in moderate time, with the answers they should have."""

import time
import unittest

from lyingsensors.sensors import answers
from tests.lines import taken_apart, written

BIG = 10 ** 9
MODERATE = 10


def timed(calls):
    start = time.perf_counter()
    told = taken_apart(answers(written(calls)))
    return told, time.perf_counter() - start


class LongTest(unittest.TestCase):
    def moderate(self, calls):
        self.assertEqual(len(calls), 400)
        told, seconds = timed(calls)
        self.assertLess(seconds, MODERATE)
        self.assertEqual(len(told), 400)
        return told

    def test_reports_at_every_tick(self):
        calls = [("begin", 9, 4, -BIG, BIG, 5, 5)]
        for tick in range(99):
            for turn in range(3):
                sensor = (3 * tick + turn) % 9
                shift = 1000 * (sensor + 1) if sensor < 4 else 0
                calls.append(("report", sensor, shift - 10 - tick, shift + 10 + tick))
            calls.append(("tick", 1))
        calls += [("places",), ("liars",), ("sets",)]
        told = self.moderate(calls)
        self.assertEqual(told[-4:], [[0, 99], [0, 1, -113, 113], [0, 0, 1, 2, 3], [0, 15]])

    def test_witnesses_of_the_longest_course(self):
        calls = [("begin", 9, 4, -BIG, BIG, 0, 10 ** 7), ("report", 8, 0, 0), ("tick", 99)]
        calls += [("witness", 99 * 10 ** 7)] * 397
        told = self.moderate(calls)
        self.assertEqual(told[-1], [0, 15] + [tick * 10 ** 7 for tick in range(100)])

    def test_each_other_call_at_the_last_tick(self):
        start = [("begin", 9, 4, 0, 100, 1, 1), ("tick", 99)]
        for call, answer in [
                (("places",), [0, 1, 0, 100]), (("can", 50), [0, 1]), (("check", 15, [50] * 31), [0, 0, 31]),
                (("liars",), [0]), (("fewest",), [0, 0, 0])]:
            told = self.moderate(start + [call] * 398)
            self.assertEqual(told[2:], [answer] * 398)
        told = self.moderate(start + [("sets",)] * 398)
        self.assertEqual(len(told[-1]), 127)

    def test_each_call_about_other_ticks_and_bands(self):
        start = [("begin", 9, 4, -BIG, BIG, 5, 7)]
        for sensor in range(9):
            start.append(("report", sensor, -10 * sensor, 10 * sensor * sensor))
        start.append(("tick", 99))
        for call, answer in [
                (("past", 0), [0, 1, -40, 160]), (("past", 99), [0, 1, -535, 853]),
                (("ahead", 1000), [0, 1, -5535, 7853]), (("sure", -535, 853), [0, 1]),
                (("leaves", -BIG, BIG), [0, 0]), (("leaves", -BIG, 853 + 1399), [0, 1, 200]),
                (("suppose", 8, 0, 5), [0, 1, -525, 783]), (("hull",), [0, -535, 853])]:
            told = self.moderate(start + [call] * 389)
            self.assertEqual(told[11:], [answer] * 389, call)
        told = self.moderate(start + [("widths",)] * 389)
        self.assertEqual(told[11:], [[0] + [201 + 12 * tick for tick in range(100)]] * 389)

    def test_calls_about_all_ticks_between_many_reports(self):
        calls = [("begin", 9, 4, -BIG, BIG, 5, 7)]
        for tick in range(99):
            sensor = tick % 9
            calls += [("report", sensor, -100 * sensor, 100 * sensor), ("tick", 1)]
        for sensor in range(9):
            calls += [("report", sensor, -sensor, sensor), ("past", 0), ("leaves", -BIG, BIG), ("widths",)]
        for turn in range(33):
            calls += [("unsay", 3), ("past", 0), ("ahead", turn), ("widths",), ("report", 3, -3, 3)]
        told = self.moderate(calls)
        self.assertEqual(told[-5:-2], [[0], [0, 1, -428, 420], [0, 1, -5 - 5 * 32, 5 + 7 * 32]])
        self.assertEqual(told[-2][1:5], [2 * BIG + 1] * 4)
        self.assertEqual(told[-2][-1], 11)

    def test_reports_made_and_taken_back(self):
        calls = [("begin", 9, 4, 0, 100, 1, 1), ("tick", 99)] + [("report", sensor, 5, 6) for sensor in range(8)]
        calls += [("report", 8, 5, 6), ("unsay", 8), ("trusted", 0)] * 130
        told = self.moderate(calls)
        self.assertEqual(told[-3:], [[0, 126], [0], [0, 1]])

    def test_rooms_begun_again_and_again(self):
        told = self.moderate([("begin", 9, 4, 0, 100, 1, 1), ("tick", 99), ("report", 0, 5, 6), ("sets",)] * 100)
        self.assertEqual(told[2::4], [[0, 126]] * 100)


if __name__ == "__main__":
    unittest.main()
