"""Many lists of calls in small rooms, against a plain search over all courses and sets."""

import random
import unittest

from lyingsensors.sensors import answers
from tests.lines import NUMBERS, taken_apart, written
from tests.plain import Plain

MOST_NOW = 3


def small_begin(dice):
    low = dice.randint(-3, 3)
    n = dice.randint(1, 4)
    f = dice.randint(0, min(n - 1, 3))
    return ("begin", n, f, low, low + dice.randint(0, 5), dice.randint(0, 2), dice.randint(0, 2))


def wrong_begin(dice):
    begin = list(small_begin(dice))
    place = dice.randint(1, 6)
    begin[place] = dice.choice([-10 ** 18, -10 ** 9 - 1, 10 ** 9 + 1, 10 ** 18])
    return tuple(begin)


class Writer:
    """Makes calls that fit the room of the plain search, and some that don't."""

    def __init__(self, dice):
        self.dice = dice
        self.room = Plain()

    def number(self):
        low = self.room.low if self.room.begun else 0
        high = self.room.high if self.room.begun else 3
        return self.dice.randint(low - 1, high + 1)

    def report(self):
        sensors = self.room.n if self.room.begun else 3
        sensor = self.dice.randint(0, sensors - 1)
        a = self.number()
        b = a + self.dice.choice([0, 0, 1, 1, 2, 3])
        if self.dice.random() < 0.05:
            return ("report", self.dice.choice([-1, sensors, sensor]), b, a)
        return ("report", sensor, a, b)

    def suppose(self):
        return ("suppose",) + self.report()[1:]

    def sensor(self):
        now = [sensor for tick, sensor in self.room.reported if tick == self.room.now] if self.room.begun else []
        if now and self.dice.random() < 0.7:
            return self.dice.choice(now)
        return self.dice.randint(-1, self.room.n if self.room.begun else 3)

    def band(self):
        a = self.number()
        b = self.dice.choice([a - 1, a, a + 1, a + 2, a + 3, a + 4, a + 5])
        far = 10 ** 18
        return self.dice.choice([(a, b), (a, b), (a, b), (a, b), (a, far), (-far, b), (-far, far)])

    def past_tick(self):
        return self.dice.randint(-1, self.room.now + 1 if self.room.begun else 3)

    def steps(self):
        return self.dice.choice([0, 1, 1, 1, 2, 2, 3, 7, 1000, -1, 1001])

    def tick(self):
        if self.dice.random() < 0.15 or not self.room.begun:
            return ("tick", self.dice.choice([-1, 0, 100, 101]))
        left = MOST_NOW - self.room.now
        return ("tick", self.dice.randint(1, left)) if left > 0 else ("tick", 99)

    def check(self):
        if not self.room.begun:
            return ("check", 0, [self.number()])
        told = self.dice.randint(-1, 2 ** self.room.n)
        row = [self.number() for _ in range(self.room.now + self.dice.choice([0, 1, 1, 1, 2, 3]))]
        witness = self.room.witness(self.number())
        if witness[0] == 0 and self.dice.random() < 0.7:
            told, row = witness[1], witness[2:]
            if self.dice.random() < 0.5:
                row[self.dice.randrange(len(row))] += self.dice.choice([-1, 1])
        return ("check", told, row)

    def call(self):
        kind = self.dice.choice([
            "report", "report", "report", "report", "report", "report", "tick", "tick", "places", "can",
            "witness", "witness", "check", "check", "liars", "fewest", "sets", "begin", "past", "past", "ahead",
            "ahead", "sure", "leaves", "suppose", "trusted", "hull", "reports", "widths", "unsay", "unsay"])
        if kind == "begin":
            return small_begin(self.dice) if self.dice.random() < 0.2 else wrong_begin(self.dice)
        if kind in ("report", "tick", "check", "suppose"):
            return getattr(self, kind)()
        if kind in ("can", "witness"):
            return (kind, self.number())
        if kind in ("past", "reports"):
            return (kind, self.past_tick())
        if kind == "ahead":
            return (kind, self.steps())
        if kind in ("sure", "leaves"):
            return (kind,) + self.band()
        if kind in ("trusted", "unsay"):
            return (kind, self.sensor())
        return (kind,)

    def line(self, length):
        calls = []
        expected = []
        for place in range(length):
            call = self.call()
            if place == 0 and self.dice.random() < 0.9:
                call = small_begin(self.dice)
            calls.append(call)
            expected.append(self.room.answer(call))
        return calls, expected


class SearchTest(unittest.TestCase):
    def test_many_lists_agree_with_the_plain_search(self):
        seen = {}
        for seed in range(600):
            calls, expected = Writer(random.Random(seed)).line(36)
            told = taken_apart(answers(written(calls)))
            self.assertEqual(len(told), len(calls))
            for call, one, other in zip(calls, told, expected):
                self.assertEqual(one, other, f"seed {seed}, {call}, in {calls}")
                seen[call[0], other[0]] = True
                seen[call[0], tuple(other[:2])] = True
        for kind in NUMBERS:
            self.assertIn((kind, 0), seen)
        for kind, told in [
                ("begin", -1), ("report", -1), ("report", -3), ("report", -7), ("tick", -1), ("tick", -5),
                ("witness", -4), ("check", -1), ("liars", -4), ("fewest", -4), ("past", -1), ("ahead", -1),
                ("sure", -1), ("sure", -4), ("leaves", -1), ("leaves", -4), ("suppose", -1), ("suppose", -3),
                ("trusted", -1), ("trusted", -4), ("hull", -4), ("reports", -1), ("unsay", -1), ("unsay", -4),
                ("past", (0, 0)), ("past", (0, 2)), ("ahead", (0, 0)), ("ahead", (0, 2)), ("suppose", (0, 0)),
                ("suppose", (0, 2)), ("sure", (0, 0)), ("sure", (0, 1)), ("sure", (0, 2)), ("leaves", (0, 0)),
                ("leaves", (0, 1)), ("trusted", (0, 0)), ("trusted", (0, 1))]:
            self.assertIn((kind, told), seen)


if __name__ == "__main__":
    unittest.main()
