"""The truth is among what places, past and ahead tell, and each number told there can be the truth."""

import itertools
import random
import unittest

from tests.lines import run


class Story:
    """A truth that moves as it may, honest sensors that hold it, and liars that say anything."""

    def __init__(self, dice, n, f, width, ticks):
        self.n, self.f = n, f
        self.low = dice.randint(-50, 50)
        self.high = self.low + width
        self.down, self.up = dice.randint(0, 3), dice.randint(0, 3)
        self.liars = dice.sample(range(n), f)
        self.truth = [dice.randint(self.low, self.high)]
        self.reports = []
        for _ in range(ticks):
            self.reports.append(self.reports_of_a_tick(dice))
            self.truth.append(self.step(dice))
        self.truth.pop()

    def step(self, dice):
        v = self.truth[-1]
        return dice.randint(max(self.low, v - self.down), min(self.high, v + self.up))

    def reports_of_a_tick(self, dice):
        reports = []
        for sensor in dice.sample(range(self.n), dice.randint(0, self.n)):
            v = dice.randint(self.low, self.high) if sensor in self.liars else self.truth[-1]
            reports.append((sensor, v - dice.randint(0, 9), v + dice.randint(0, 9)))
        return reports

    def calls(self):
        calls = [("begin", self.n, self.f, self.low, self.high, self.down, self.up)]
        for tick, reports in enumerate(self.reports):
            calls += [("tick", 1)] if tick else []
            calls += [("report",) + report for report in reports]
        return calls

    def allowed(self, tick, liars):
        """The numbers that the reports of a tick allow, but the liars'."""
        honest = [(a, b) for sensor, a, b in self.reports[tick] if sensor not in liars]
        return {v for v in range(self.low, self.high + 1) if all(a <= v <= b for a, b in honest)}

    def moved(self, numbers, down, up):
        return {
            w for v in numbers for w in range(max(self.low, v - down), min(self.high, v + up) + 1)}

    def known(self):
        """For each tick the numbers by the reports up to it, and by all; over all sets of f liars."""
        so_far = [set() for _ in self.reports]
        by_all = [set() for _ in self.reports]
        for liars in itertools.combinations(range(self.n), self.f):
            forward = [self.allowed(0, liars)]
            for tick in range(1, len(self.reports)):
                forward.append(self.moved(forward[-1], self.down, self.up) & self.allowed(tick, liars))
            backward = forward[-1]
            for tick in reversed(range(len(self.reports))):
                if tick < len(self.reports) - 1:
                    backward = self.moved(backward, self.up, self.down) & forward[tick]
                so_far[tick] |= forward[tick]
                by_all[tick] |= backward
        return so_far, by_all


def numbers_of(pieces):
    numbers = set()
    for a, b in zip(pieces[2::2], pieces[3::2]):
        numbers |= set(range(a, b + 1))
    return numbers


class PromisesTest(unittest.TestCase):
    def stories(self):
        for seed in range(150):
            dice = random.Random(seed)
            n = dice.randint(1, 9)
            yield dice, Story(dice, n, dice.randint(0, min(4, n - 1)), dice.randint(0, 150), dice.randint(1, 12))

    def test_exactly_what_can_be_at_each_tick(self):
        for _, story in self.stories():
            so_far, by_all = story.known()
            past = [("past", tick) for tick in range(len(by_all))]
            told = run(*story.calls(), *past, ("places",), ("widths",))
            self.assertEqual([numbers_of(pieces) for pieces in told[-len(past) - 2:-2]], by_all)
            self.assertEqual(numbers_of(told[-2]), so_far[-1])
            self.assertEqual(told[-1], [0] + [len(numbers) for numbers in so_far])

    def test_exactly_what_can_be_later(self):
        for _, story in self.stories():
            numbers = story.known()[0][-1]
            told = run(*story.calls(), *[("ahead", k) for k in range(15)])
            for pieces in told[-15:]:
                self.assertEqual(numbers_of(pieces), numbers)
                numbers = story.moved(numbers, story.down, story.up)

    def test_the_truth_is_among_them(self):
        for dice, story in self.stories():
            past = [("past", tick) for tick in range(len(story.truth))]
            told = run(*story.calls(), *past, ("places",))
            for tick, pieces in enumerate(told[-len(past) - 1:-1]):
                self.assertIn(story.truth[tick], numbers_of(pieces))
            self.assertIn(story.truth[-1], numbers_of(told[-1]))
            told = run(*story.calls(), *[("ahead", k) for k in range(15)])
            for pieces in told[-15:]:
                self.assertIn(story.truth[-1], numbers_of(pieces))
                story.truth.append(story.step(dice))

    def test_each_place_has_a_course_and_liars(self):
        for _, story in self.stories():
            calls = story.calls()
            for v in sorted(numbers_of(run(*calls, ("places",))[-1])):
                witness = run(*calls, ("witness", v))[-1]
                self.assertEqual(witness[-1], v)
                self.assertEqual(run(*calls, ("check", witness[1], witness[2:]))[-1], [0, 1])


if __name__ == "__main__":
    unittest.main()
