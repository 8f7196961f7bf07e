"""Calls 5, 7, 8 and 9: who can be lying, and the course that shows it."""

import unittest

from tests.lines import begin, last, run

HUGE = 10 ** 18
ONE_SET = (begin(n=3, f=1), ("report", 0, 10, 20), ("report", 1, 15, 30), ("report", 2, 50, 60))
NO_SET = (begin(n=3, f=1), ("report", 0, 1, 1), ("report", 1, 3, 3), ("report", 2, 5, 5))
NO_LIARS = (begin(n=2, f=0), ("report", 0, 5, 7), ("tick", 1))


class WitnessTest(unittest.TestCase):
    def test_the_least_set(self):
        start = (begin(n=3, f=1), ("report", 0, 10, 20), ("report", 1, 15, 30), ("report", 2, 18, 40))
        for v, told in [(17, 4), (18, 1), (20, 1), (30, 1)]:
            self.assertEqual(last(*start, ("witness", v)), [0, told, v])
        self.assertEqual(last(*start, ("witness", 31)), [-4])

    def test_the_set_has_just_f_sensors(self):
        self.assertEqual(last(begin(n=9, f=4), ("witness", 5)), [0, 15, 5])
        self.assertEqual(last(begin(n=9, f=4), ("report", 1, 9, 9), ("witness", 5)), [0, 15, 5])
        self.assertEqual(last(begin(n=9, f=4), ("report", 8, 9, 9), ("witness", 5)), [0, 256 + 7, 5])

    def test_each_number_before_is_the_least_by_the_moves(self):
        start = (begin(n=1, f=0, low=0, high=30, down=3, up=5), ("tick", 3))
        self.assertEqual(last(*start, ("witness", 30)), [0, 0, 15, 20, 25, 30])
        self.assertEqual(last(*start, ("witness", 7)), [0, 0, 0, 0, 2, 7])
        self.assertEqual(last(*start, ("witness", 0)), [0, 0, 0, 0, 0, 0])

    def test_each_number_before_can_be_by_the_reports_up_to_its_tick(self):
        start = (
            begin(n=1, f=0, low=0, high=30, down=3, up=5), ("report", 0, 12, 20), ("tick", 1), ("report", 0, 11, 30),
            ("tick", 2), ("report", 0, 5, 9))
        self.assertEqual(last(*start, ("witness", 5)), [0, 0, 12, 11, 8, 5])
        self.assertEqual(last(*start, ("witness", 9)), [0, 0, 12, 11, 8, 9])
        self.assertEqual(last(*start, ("witness", 4)), [-4])

    def test_what_the_liars_say_does_not_count(self):
        start = (begin(n=2, f=1, down=0, up=0), ("report", 0, 10, 20), ("tick", 1), ("report", 1, 15, 30), ("tick", 1))
        for v, told in [(12, 2), (17, 1), (25, 1)]:
            self.assertEqual(last(*start, ("witness", v)), [0, told, v, v, v])

    def test_the_witness_passes_check(self):
        start = (
            begin(n=4, f=2, low=-20, high=20, down=2, up=3), ("report", 0, -5, 3), ("report", 1, 0, 9), ("tick", 1),
            ("report", 2, 4, 8), ("report", 3, -9, -4), ("tick", 2), ("report", 0, 7, 9), ("report", 3, -3, 2))
        for v in range(-25, 26):
            told = run(*start, ("can", v), ("witness", v))
            if told[-2] == [0, 0]:
                self.assertEqual(told[-1], [-4])
            else:
                self.assertEqual(told[-1][-1], v)
                self.assertEqual(last(*start, ("check", told[-1][1], told[-1][2:])), [0, 1])

    def test_just_one_set(self):
        self.assertEqual(last(*ONE_SET, ("witness", 20)), [0, 4, 20])
        self.assertEqual(last(*ONE_SET, ("witness", 21)), [-4])

    def test_no_set(self):
        self.assertEqual(last(*NO_SET, ("witness", 3)), [-4])

    def test_with_no_liars(self):
        self.assertEqual(last(*NO_LIARS, ("witness", 9)), [0, 0, 7, 9])
        self.assertEqual(last(*NO_LIARS, ("witness", 4)), [0, 0, 5, 4])

    def test_numbers_outside_of_the_room(self):
        for v in [-1, 101, HUGE, -HUGE]:
            self.assertEqual(run(begin(), ("witness", v), ("places",))[1:], [[-4], [0, 1, 0, 100]])


class LiarsTest(unittest.TestCase):
    def test_nobody_must_be_lying(self):
        self.assertEqual(last(begin(), ("liars",)), [0])
        self.assertEqual(last(begin(n=2, f=1), ("report", 0, 1, 1), ("report", 1, 2, 2), ("liars",)), [0])

    def test_just_one_set(self):
        self.assertEqual(last(*ONE_SET, ("liars",)), [0, 2])

    def test_the_sensors_ascend(self):
        told = last(begin(n=5, f=3), ("report", 4, 101, 102), ("report", 1, -2, -1), ("liars",))
        self.assertEqual(told, [0, 1, 4])

    def test_a_liar_is_found_over_time(self):
        start = (begin(n=3, f=1, down=1, up=2), ("report", 0, 50, 50), ("report", 1, 40, 60), ("tick", 3))
        self.assertEqual(last(*start, ("report", 1, 40, 57), ("report", 0, 57, 57), ("liars",)), [0, 0])
        self.assertEqual(last(*start, ("report", 1, 40, 56), ("report", 0, 56, 56), ("liars",)), [0])

    def test_no_set(self):
        self.assertEqual(run(*NO_SET, ("liars",), ("tick", 1), ("liars",))[-3:], [[-4], [0, 1], [-4]])

    def test_with_no_liars(self):
        self.assertEqual(last(*NO_LIARS, ("liars",)), [0])
        self.assertEqual(last(*NO_LIARS, ("report", 1, 90, 90), ("liars",)), [-4])


class FewestTest(unittest.TestCase):
    def test_none_is_needed(self):
        self.assertEqual(last(begin(n=9, f=4), ("report", 3, 5, 5), ("fewest",)), [0, 0, 0])

    def test_the_least_set_of_the_fewest(self):
        told = last(begin(n=4, f=2), ("report", 2, 5, 5), ("report", 3, 6, 6), ("fewest",))
        self.assertEqual(told, [0, 1, 4])

    def test_fewer_before_a_lesser_number(self):
        told = last(begin(n=4, f=2), ("report", 0, 5, 5), ("report", 1, 5, 5), ("report", 3, 6, 6), ("fewest",))
        self.assertEqual(told, [0, 1, 8])

    def test_as_many_as_f(self):
        told = last(begin(n=3, f=2), ("report", 0, 1, 1), ("report", 1, 3, 3), ("report", 2, 5, 5), ("fewest",))
        self.assertEqual(told, [0, 2, 3])

    def test_just_one_set(self):
        self.assertEqual(last(*ONE_SET, ("fewest",)), [0, 1, 4])

    def test_none_of_at_most_f(self):
        self.assertEqual(last(*NO_SET, ("fewest",)), [-4])

    def test_with_no_liars(self):
        self.assertEqual(last(*NO_LIARS, ("fewest",)), [0, 0, 0])
        self.assertEqual(last(*NO_LIARS, ("report", 1, 10, 90), ("fewest",)), [-4])


class SetsTest(unittest.TestCase):
    def test_all_sets_of_just_f_ascending(self):
        self.assertEqual(last(begin(n=4, f=2), ("sets",)), [0, 3, 5, 6, 9, 10, 12])
        self.assertEqual(last(begin(n=3, f=1), ("sets",)), [0, 1, 2, 4])

    def test_only_those_that_can_be(self):
        told = last(begin(n=4, f=2), ("report", 1, 5, 5), ("report", 2, 6, 6), ("sets",))
        self.assertEqual(told, [0, 3, 5, 6, 10, 12])

    def test_just_one_set(self):
        self.assertEqual(last(*ONE_SET, ("sets",)), [0, 4])

    def test_no_set_is_no_refusal(self):
        self.assertEqual(last(*NO_SET, ("sets",)), [0])

    def test_with_no_liars(self):
        self.assertEqual(last(*NO_LIARS, ("sets",)), [0, 0])
        self.assertEqual(last(*NO_LIARS, ("report", 1, 10, 90), ("sets",)), [0])


if __name__ == "__main__":
    unittest.main()
