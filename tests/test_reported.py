"""Calls 14, 15, 17 and 19: reports that are only supposed, trusted, told again and taken back."""

import unittest

from tests.lines import begin, last, run

HUGE = 10 ** 18
BIG = 10 ** 9
NO_SET = (begin(n=4, f=1), ("report", 0, 1, 1), ("report", 1, 3, 3), ("report", 2, 5, 5))
ONE_SET = (begin(n=4, f=1), ("report", 0, 10, 20), ("report", 1, 15, 30), ("report", 2, 50, 60))
NO_LIARS = (begin(n=3, f=0), ("report", 0, 10, 20), ("report", 1, 15, 30))
# Each call that tells something of what is kept, with the tick 0 there.
QUESTIONS = (
    ("places",), ("liars",), ("fewest",), ("sets",), ("past", 0), ("ahead", 2), ("hull",), ("reports", 0), ("widths",),
    ("can", 12), ("witness", 12), ("sure", 10, 20), ("leaves", 0, 90), ("suppose", 2, 5, 50), ("trusted", 0),
    ("check", 1, [12]))
WRONG_REPORTS = [
    (-1, 1, 2), (4, 1, 2), (HUGE, 1, 2), (-HUGE, 1, 2), (3, 2, 1), (3, -2 * BIG - 1, 0), (3, 0, 2 * BIG + 1),
    (3, 2 * BIG + 1, 2 * BIG + 1), (3, -2 * BIG - 1, -2 * BIG - 1), (3, -HUGE, HUGE), (3, HUGE, -HUGE)]


class SupposeTest(unittest.TestCase):
    start = (begin(n=4, f=1), ("report", 0, 10, 20), ("report", 1, 15, 30))

    def test_where_the_truth_could_be_then(self):
        for a, b, pieces in [
                (0, 100, [1, 10, 30]), (25, 40, [2, 15, 20, 25, 30]), (21, 40, [1, 15, 30]), (17, 40, [1, 15, 30]),
                (50, 60, [1, 15, 20]), (-9, -1, [1, 15, 20]), (12, 12, [2, 12, 12, 15, 20])]:
            self.assertEqual(last(*self.start, ("suppose", 2, a, b)), [0] + pieces, (a, b))

    def test_is_as_places_behind_such_a_report(self):
        for told in [(2, 25, 40), (3, 12, 12), (2, 50, 60), (3, 0, 100)]:
            both = run(*self.start, ("tick", 2), ("suppose",) + told, ("report",) + told, ("places",))
            self.assertEqual(both[-3], both[-1], told)

    def test_nothing_changes(self):
        plain = run(*self.start, *QUESTIONS)[3:]
        for told in [(2, 25, 40), (3, 101, 102), (2, 0, 0)]:
            supposed = run(*self.start, ("suppose",) + told, *QUESTIONS)[4:]
            self.assertEqual(supposed, plain, told)
            self.assertEqual(last(*self.start, ("suppose",) + told, ("report",) + told)[0], 0)
            self.assertEqual(last(*self.start, ("suppose",) + told, ("suppose",) + told)[0], 0)
            self.assertEqual(last(*self.start, ("suppose",) + told, ("trusted", told[0])), [-4])

    def test_the_edges_that_are_in_range(self):
        for told in [(3, 7, 7), (2, 1, 2), (3, -2 * BIG, 2 * BIG), (3, -2 * BIG, -2 * BIG), (3, 2 * BIG, 2 * BIG)]:
            self.assertEqual(last(*self.start, ("suppose",) + told)[0], 0, told)
        self.assertEqual(last(begin(), ("suppose", 0, 5, 6)), [0, 1, 0, 100])

    def test_the_edges_that_are_out_of_range(self):
        plain = run(*self.start, *QUESTIONS)[3:]
        for told in WRONG_REPORTS:
            refused = run(*self.start, ("suppose",) + told, *QUESTIONS)[3:]
            self.assertEqual(refused, [[-1]] + plain, told)

    def test_where_it_has_reported_at_this_tick(self):
        told = run(
            *self.start, ("suppose", 0, 10, 20), ("suppose", 1, 0, 0), ("places",), ("tick", 1), ("suppose", 0, 9, 9))
        self.assertEqual(told[3:], [[-3], [-3], [0, 1, 10, 30], [0, 1], [0, 2, 9, 9, 14, 32]])
        told = run(*self.start, ("unsay", 0), ("suppose", 0, 10, 20))
        self.assertEqual(told[-1], [0, 1, 10, 30])

    def test_the_refusal_nearest_to_zero(self):
        for wrong in [(0, 9, 5), (0, -2 * BIG - 1, 5), (0, 5, 2 * BIG + 1)]:
            self.assertEqual(last(*self.start, ("suppose",) + wrong), [-1], wrong)

    def test_no_set(self):
        self.assertEqual(last(*NO_SET, ("suppose", 3, 1, 1)), [0, 0])
        self.assertEqual(last(*NO_SET, ("suppose", 3, 5, 1)), [-1])
        self.assertEqual(last(*NO_SET, ("suppose", 2, 5, 5)), [-3])

    def test_just_one_set(self):
        self.assertEqual(last(*ONE_SET, ("suppose", 3, 18, 99)), [0, 1, 18, 20])
        self.assertEqual(last(*ONE_SET, ("suppose", 3, 21, 99)), [0, 0])

    def test_with_no_liars(self):
        self.assertEqual(last(*NO_LIARS, ("suppose", 2, 18, 99)), [0, 1, 18, 20])
        self.assertEqual(last(*NO_LIARS, ("suppose", 2, 21, 99)), [0, 0])


class TrustedTest(unittest.TestCase):
    def trusted(self, start, told):
        self.assertEqual([last(*start, ("trusted", sensor))[1] for sensor in range(len(told))], told)

    def test_holds_all_that_the_truth_can_be(self):
        start = (begin(n=3, f=1), ("report", 0, 10, 40), ("report", 1, 15, 30), ("report", 2, 15, 39))
        self.trusted(start, [1, 0, 1])
        self.assertEqual(last(*start, ("places",)), [0, 1, 15, 39])

    def test_to_the_very_ends(self):
        two = (begin(n=3, f=1), ("report", 0, 10, 20), ("report", 1, 10, 20))
        for a, b, told in [(10, 20, 1), (9, 21, 1), (10, 19, 0), (11, 20, 0), (0, 100, 1), (30, 40, 0), (0, 9, 0)]:
            self.assertEqual(last(*two, ("report", 2, a, b), ("trusted", 2)), [0, told], (a, b))

    def test_each_piece_must_be_held(self):
        start = (begin(n=2, f=1), ("report", 0, 50, 60), ("report", 1, 10, 20))
        self.trusted(start, [0, 0])
        self.trusted((begin(n=2, f=1), ("report", 0, 0, 100), ("report", 1, 10, 20)), [1, 0])

    def test_what_was_known_before_counts(self):
        start = (begin(n=1, f=0), ("report", 0, 10, 12), ("tick", 1))
        for a, b, told in [(9, 14, 1), (0, 100, 1), (11, 11, 1), (60, 70, 1)]:
            self.assertEqual(last(*start, ("report", 0, a, b), ("trusted", 0)), [0, told], (a, b))

    def test_just_one_set(self):
        self.trusted(ONE_SET, [1, 1, 0])

    def test_with_no_liars(self):
        self.trusted(NO_LIARS, [1, 1])

    def test_where_the_truth_can_be_nothing(self):
        self.trusted(NO_SET, [1, 1, 1])
        told = run(*NO_SET, ("trusted", 3), ("tick", 1), ("trusted", 0), ("report", 0, 9, 9), ("trusted", 0))
        self.assertEqual(told[4:], [[-4], [0, 1], [-4], [0, 0], [0, 1]])

    def test_the_sensors_range(self):
        for sensor in [-1, 4, HUGE, -HUGE]:
            for start in [ONE_SET, NO_SET, ONE_SET + (("tick", 1),)]:
                self.assertEqual(last(*start, ("trusted", sensor)), [-1], sensor)
        start = (begin(n=9, f=4), ("report", 8, 5, 5), ("report", 0, 5, 5))
        self.assertEqual(run(*start, ("trusted", 0), ("trusted", 8), ("trusted", 9))[3:], [[0, 0], [0, 0], [-1]])

    def test_where_it_has_not_reported_now(self):
        told = run(
            *NO_LIARS, ("trusted", 2), ("tick", 1), ("trusted", 0), ("places",), ("report", 0, 5, 50), ("trusted", 0),
            ("unsay", 0), ("trusted", 0))
        self.assertEqual(told[3:], [[-4], [0, 1], [-4], [0, 1, 14, 22], [0, 1], [0, 1], [0], [-4]])


class ReportsTest(unittest.TestCase):
    start = (
        begin(n=4, f=1), ("report", 2, 10, 20), ("report", 0, 101, 300), ("report", 3, -2 * BIG, 2 * BIG),
        ("tick", 2), ("report", 1, 5, 5), ("report", 0, 7, 8))

    def test_as_they_came(self):
        told = run(*self.start, ("reports", 0), ("reports", 1), ("reports", 2))
        self.assertEqual(
            told[-3:], [[0, 2, 10, 20, 0, 101, 300, 3, -2 * BIG, 2 * BIG], [0], [0, 1, 5, 5, 0, 7, 8]])

    def test_nothing_is_reported(self):
        self.assertEqual(last(begin(), ("reports", 0)), [0])

    def test_refused_and_supposed_ones_are_not_told(self):
        told = run(
            *self.start, ("report", 1, 6, 6), ("report", 4, 6, 6), ("report", 2, 6, 5), ("suppose", 2, 6, 6),
            ("reports", 2))
        self.assertEqual(told[-1], [0, 1, 5, 5, 0, 7, 8])

    def test_all_sensors_at_once(self):
        calls = [("report", sensor, sensor, 2 * sensor) for sensor in reversed(range(9))]
        expected = [0]
        for sensor in reversed(range(9)):
            expected += [sensor, sensor, 2 * sensor]
        self.assertEqual(last(begin(n=9, f=4), *calls, ("tick", 99), ("reports", 0)), expected)

    def test_where_no_set_can_be(self):
        self.assertEqual(last(*NO_SET, ("reports", 0)), [0, 0, 1, 1, 1, 3, 3, 2, 5, 5])

    def test_the_ticks_range(self):
        for tick in [-1, 3, 99, HUGE, -HUGE]:
            told = run(*self.start, ("reports", tick), ("reports", 2))
            self.assertEqual(told[-2:], [[-1], [0, 1, 5, 5, 0, 7, 8]], tick)
        told = run(begin(), ("reports", 1), ("reports", 0), ("tick", 99), ("reports", 99), ("reports", 100))
        self.assertEqual(told[1:], [[-1], [0], [0, 99], [0], [-1]])


class UnsayTest(unittest.TestCase):
    def test_answers_zero_alone(self):
        self.assertEqual(last(*NO_LIARS, ("unsay", 1)), [0])

    def test_all_is_as_if_it_had_never_been_made(self):
        reports = [(0, 10, 20), (1, 15, 30), (3, 50, 60)]
        for f in [0, 1, 2]:
            for back in reports:
                kept = [("report",) + told for told in reports if told != back]
                never = run(begin(n=4, f=f), *kept, *QUESTIONS)[1 + len(kept):]
                made = [("report",) + told for told in reports]
                taken = run(begin(n=4, f=f), *made, ("unsay", back[0]), *QUESTIONS)[2 + len(made):]
                self.assertEqual(taken, never, (f, back))

    def test_at_a_later_tick_too(self):
        before = (begin(n=3, f=1), ("report", 0, 10, 20), ("report", 1, 30, 40), ("tick", 2), ("report", 2, 17, 30))
        asked = (
            ("places",), ("past", 0), ("past", 1), ("widths",), ("sets",), ("reports", 0), ("reports", 2), ("hull",))
        never = run(*before, *asked)[len(before):]
        taken = run(*before, ("report", 0, 90, 99), ("unsay", 0), *asked)[len(before) + 2:]
        self.assertEqual(taken, never)
        self.assertEqual(taken[0], [0, 2, 17, 24, 28, 30])

    def test_a_set_that_could_not_be_can_be_again(self):
        told = run(*NO_SET, ("sets",), ("unsay", 1), ("sets",), ("places",))
        self.assertEqual(told[4:], [[0], [0], [0, 1, 4], [0, 2, 1, 1, 5, 5]])

    def test_the_sensor_may_report_again_and_stands_last(self):
        told = run(
            *NO_LIARS, ("unsay", 0), ("report", 0, 16, 17), ("reports", 0), ("places",), ("report", 0, 16, 17),
            ("unsay", 1), ("reports", 0), ("places",))
        self.assertEqual(
            told[3:],
            [[0], [0, 1], [0, 1, 15, 30, 0, 16, 17], [0, 1, 16, 17], [-3], [0], [0, 0, 16, 17], [0, 1, 16, 17]])

    def test_reports_of_earlier_ticks_stay(self):
        told = run(
            *NO_LIARS, ("tick", 1), ("report", 0, 16, 17), ("unsay", 0), ("reports", 0), ("reports", 1), ("places",),
            ("unsay", 0), ("reports", 0), ("past", 0))
        self.assertEqual(
            told[5:],
            [[0], [0, 0, 10, 20, 1, 15, 30], [0], [0, 1, 14, 22], [-4], [0, 0, 10, 20, 1, 15, 30], [0, 1, 15, 20]])

    def test_twice(self):
        told = run(*NO_LIARS, ("unsay", 0), ("unsay", 0), ("unsay", 1), ("unsay", 1), ("places",), ("reports", 0))
        self.assertEqual(told[3:], [[0], [-4], [0], [-4], [0, 1, 0, 100], [0]])

    def test_where_it_has_not_reported_now(self):
        told = run(*NO_LIARS, ("unsay", 2), ("places",), ("reports", 0), ("tick", 1), ("unsay", 0), ("places",))
        self.assertEqual(
            told[3:], [[-4], [0, 1, 15, 20], [0, 0, 10, 20, 1, 15, 30], [0, 1], [-4], [0, 1, 14, 22]])

    def test_the_sensors_range(self):
        for sensor in [-1, 3, HUGE, -HUGE]:
            told = run(*NO_LIARS, ("unsay", sensor), ("places",), ("reports", 0), ("tick", 1), ("unsay", sensor))
            self.assertEqual(
                told[3:], [[-1], [0, 1, 15, 20], [0, 0, 10, 20, 1, 15, 30], [0, 1], [-1]], sensor)
        start = (begin(n=9, f=4), ("report", 8, 5, 5), ("report", 0, 5, 5))
        self.assertEqual(run(*start, ("unsay", 8), ("unsay", 0), ("unsay", 9))[3:], [[0], [0], [-1]])


if __name__ == "__main__":
    unittest.main()
