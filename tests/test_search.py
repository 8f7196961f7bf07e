"""Many lists of calls in small rooms, against a plain search over all courses and sets."""

import random
import unittest

from lyingsensors.sensors import answers
from tests.lines import taken_apart, written
from tests.plain import Plain

MOST_NOW = 3


def small_begin(dice):
    low = dice.randint(-3, 3)
    n = dice.randint(1, 4)
    f = dice.randint(0, min(n - 1, 3))
    return ("begin", n, f, low, low + dice.randint(0, 5), dice.randint(0, 2), dice.randint(0, 2))


def wrong_begin(dice):
    begin = list(small_begin(dice))
    place = dice.randint(1, 6)
    begin[place] = dice.choice([-10 ** 18, -10 ** 9 - 1, 10 ** 9 + 1, 10 ** 18])
    return tuple(begin)


class Writer:
    """Makes calls that fit the room of the plain search, and some that don't."""

    def __init__(self, dice):
        self.dice = dice
        self.room = Plain()

    def number(self):
        low = self.room.low if self.room.begun else 0
        high = self.room.high if self.room.begun else 3
        return self.dice.randint(low - 1, high + 1)

    def report(self):
        sensors = self.room.n if self.room.begun else 3
        sensor = self.dice.randint(0, sensors - 1)
        a = self.number()
        b = a + self.dice.choice([0, 0, 1, 1, 2, 3])
        if self.dice.random() < 0.05:
            return ("report", self.dice.choice([-1, sensors, sensor]), b, a)
        return ("report", sensor, a, b)

    def tick(self):
        if self.dice.random() < 0.15 or not self.room.begun:
            return ("tick", self.dice.choice([-1, 0, 100, 101]))
        left = MOST_NOW - self.room.now
        return ("tick", self.dice.randint(1, left)) if left > 0 else ("tick", 99)

    def check(self):
        if not self.room.begun:
            return ("check", 0, [self.number()])
        told = self.dice.randint(-1, 2 ** self.room.n)
        row = [self.number() for _ in range(self.room.now + self.dice.choice([0, 1, 1, 1, 2, 3]))]
        witness = self.room.witness(self.number())
        if witness[0] == 0 and self.dice.random() < 0.7:
            told, row = witness[1], witness[2:]
            if self.dice.random() < 0.5:
                row[self.dice.randrange(len(row))] += self.dice.choice([-1, 1])
        return ("check", told, row)

    def call(self):
        kind = self.dice.choice([
            "report", "report", "report", "report", "tick", "tick", "places", "can",
            "witness", "witness", "check", "check", "liars", "fewest", "sets", "begin"])
        if kind == "begin":
            return small_begin(self.dice) if self.dice.random() < 0.2 else wrong_begin(self.dice)
        if kind in ("report", "tick", "check"):
            return getattr(self, kind)()
        if kind in ("can", "witness"):
            return (kind, self.number())
        return (kind,)

    def line(self, length):
        calls = []
        expected = []
        for place in range(length):
            call = self.call()
            if place == 0 and self.dice.random() < 0.9:
                call = small_begin(self.dice)
            calls.append(call)
            expected.append(self.room.answer(call))
        return calls, expected


class SearchTest(unittest.TestCase):
    def test_many_lists_agree_with_the_plain_search(self):
        seen = {}
        for seed in range(500):
            calls, expected = Writer(random.Random(seed)).line(24)
            told = taken_apart(answers(written(calls)))
            self.assertEqual(len(told), len(calls))
            for call, one, other in zip(calls, told, expected):
                self.assertEqual(one, other, f"seed {seed}, {call}, in {calls}")
                seen[call[0], other[0] if other[0] < 0 else 0] = True
        for kind, refusal in [
                ("begin", -1), ("report", -1), ("report", -3), ("report", -7), ("tick", -1), ("tick", -5),
                ("witness", -4), ("check", -1), ("liars", -4), ("fewest", -4)]:
            self.assertIn((kind, refusal), seen)


if __name__ == "__main__":
    unittest.main()
