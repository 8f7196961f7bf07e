"""Calls 0 to 2: what they answer, the edges of their ranges, and their refusals."""

import unittest

from tests.lines import NUMBERS, begin, last, run

BIG = 10 ** 9
HUGE = 10 ** 18


class BeginTest(unittest.TestCase):
    def test_answers_zero_alone(self):
        self.assertEqual(run(begin()), [[0]])

    def test_edges_that_are_in_range(self):
        for told in [
                begin(n=1, f=0), begin(n=9, f=0), begin(n=9, f=4), begin(n=5, f=4), begin(n=2, f=1),
                begin(low=-BIG, high=-BIG), begin(low=BIG, high=BIG), begin(low=-BIG, high=BIG),
                begin(down=0, up=0), begin(down=BIG, up=BIG)]:
            self.assertEqual(last(told), [0], told)

    def test_edges_that_are_out_of_range(self):
        for told in [
                begin(n=0, f=0), begin(n=10), begin(n=-1, f=0), begin(n=HUGE), begin(n=-HUGE),
                begin(f=-1), begin(n=9, f=5), begin(n=1, f=1), begin(n=4, f=4), begin(n=3, f=HUGE),
                begin(low=-BIG - 1), begin(low=BIG + 1, high=BIG + 1), begin(low=BIG + 1, high=BIG),
                begin(low=5, high=4), begin(high=BIG + 1), begin(low=-HUGE, high=HUGE),
                begin(down=-1), begin(down=BIG + 1), begin(up=-1), begin(up=BIG + 1)]:
            self.assertEqual(last(told), [-1], told)

    def test_all_begins_anew(self):
        told = run(
            begin(), ("report", 0, 5, 6), ("tick", 4), ("report", 1, 90, 91), begin(n=2, f=0, low=3, high=9),
            ("places",), ("tick", 1), ("report", 0, 4, 5), ("check", 0, [3, 4]), ("fewest",))
        self.assertEqual(told[4:], [[0], [0, 1, 3, 9], [0, 1], [0, 1], [0, 1], [0, 0, 0]])

    def test_a_refused_begin_leaves_the_room(self):
        told = run(
            begin(n=2, f=0), ("report", 0, 5, 6), ("tick", 1), begin(n=2, f=2), ("places",), ("tick", 1),
            ("report", 1, 3, 4))
        self.assertEqual(told[3:], [[-1], [0, 1, 4, 8], [0, 2], [0, 1]])

    def test_a_refused_begin_begins_nothing(self):
        self.assertEqual(run(begin(n=0, f=0), ("places",)), [[-1], [-7]])


class NotBegunTest(unittest.TestCase):
    def test_every_other_call_is_refused_whatever_it_says(self):
        calls = [
            ("report", 0, 1, 2), ("report", -1, 2, 1), ("report", HUGE, HUGE, -HUGE), ("tick", 1), ("tick", 0),
            ("tick", 100), ("places",), ("can", 0), ("can", HUGE), ("witness", 0), ("check", 0, []),
            ("check", -1, [1, 2, 3]), ("check", HUGE, [0] * 200), ("liars",), ("fewest",), ("sets",), ("past", 0),
            ("past", -1), ("ahead", 0), ("ahead", 1001), ("sure", 1, 2), ("sure", 2, 1), ("leaves", 1, 2),
            ("leaves", HUGE, -HUGE), ("suppose", 0, 1, 2), ("suppose", -1, 2, 1), ("trusted", 0), ("trusted", 9),
            ("hull",), ("reports", 0), ("reports", 1), ("widths",), ("unsay", 0), ("unsay", -HUGE)]
        self.assertEqual({call[0] for call in calls} | {"begin"}, set(NUMBERS))
        for call in calls:
            self.assertEqual(run(call, begin(), ("places",)), [[-7], [0], [0, 1, 0, 100]], call)
        self.assertEqual(run(*calls), [[-7]] * len(calls))


class ReportTest(unittest.TestCase):
    def test_counts_the_sets_that_can_be_the_liars(self):
        told = run(begin(n=3, f=1), ("report", 0, 10, 20), ("report", 1, 15, 30), ("report", 2, 50, 60))
        self.assertEqual(told[1:], [[0, 3], [0, 3], [0, 1]])

    def test_counts_sets_of_just_f_sensors(self):
        self.assertEqual(last(begin(n=9, f=4), ("report", 0, 0, 0)), [0, 126])
        self.assertEqual(last(begin(n=5, f=4), ("report", 0, 0, 0)), [0, 5])

    def test_a_report_outside_of_the_room_is_a_lie(self):
        self.assertEqual(last(begin(n=3, f=1), ("report", 1, 101, 200)), [0, 1])
        self.assertEqual(last(begin(n=3, f=0), ("report", 1, -5, -1)), [0, 0])

    def test_no_set_is_left(self):
        told = run(begin(n=3, f=1), ("report", 0, 1, 1), ("report", 1, 2, 2), ("report", 2, 3, 3))
        self.assertEqual(told[1:], [[0, 3], [0, 2], [0, 0]])

    def test_with_no_liars(self):
        told = run(begin(n=3, f=0), ("report", 0, 1, 5), ("report", 1, 5, 9), ("report", 2, 6, 9))
        self.assertEqual(told[1:], [[0, 1], [0, 1], [0, 0]])

    def test_nothing_revives_a_set(self):
        told = run(
            begin(n=2, f=0, down=50, up=50), ("report", 0, 1, 1), ("report", 1, 2, 2), ("tick", 1),
            ("places",), ("report", 0, 0, 100), ("sets",))
        self.assertEqual(told[2:], [[0, 0], [0, 1], [0, 0], [0, 0], [0]])

    def test_moves_bound_what_later_reports_allow(self):
        for a, count in [(22, 3), (23, 1)]:
            told = last(begin(), ("report", 0, 10, 20), ("report", 1, 10, 20), ("tick", 1), ("report", 0, a, 90))
            self.assertEqual(told, [0, count], a)
        for b, count in [(9, 1), (8, 0)]:
            self.assertEqual(
                last(begin(n=1, f=0), ("report", 0, 10, 20), ("tick", 1), ("report", 0, 0, b)), [0, count], b)

    def test_edges_that_are_in_range(self):
        for told in [(0, 7, 7), (2, 1, 2), (1, -2 * BIG, 2 * BIG), (0, -2 * BIG, -2 * BIG), (0, 2 * BIG, 2 * BIG)]:
            self.assertEqual(last(begin(), ("report",) + told)[0], 0, told)

    def test_edges_that_are_out_of_range(self):
        for told in [
                (-1, 1, 2), (3, 1, 2), (HUGE, 1, 2), (-HUGE, 1, 2), (0, 2, 1), (0, -2 * BIG - 1, 0),
                (0, 0, 2 * BIG + 1), (0, 2 * BIG + 1, 2 * BIG + 1), (0, -2 * BIG - 1, -2 * BIG - 1),
                (0, -HUGE, HUGE)]:
            self.assertEqual(
                run(begin(), ("report",) + told, ("places",), ("report", 0, 5, 6), ("report", 1, 5, 6),
                    ("report", 2, 5, 6)),
                [[0], [-1], [0, 1, 0, 100], [0, 3], [0, 3], [0, 3]], told)

    def test_twice_at_a_tick_is_refused_and_changes_nothing(self):
        told = run(
            begin(n=2, f=0), ("report", 0, 5, 9), ("report", 0, 7, 7), ("places",), ("report", 0, 5, 9),
            ("tick", 1), ("report", 0, 8, 8), ("report", 0, 8, 8), ("check", 0, [8, 8]), ("check", 0, [6, 8]))
        self.assertEqual(
            told[1:],
            [[0, 1], [-3], [0, 1, 5, 9], [-3], [0, 1], [0, 1], [-3], [0, 1], [0, 1]])

    def test_the_refusal_nearest_to_zero(self):
        for wrong in [(0, 9, 5), (0, -2 * BIG - 1, 5), (0, 5, 2 * BIG + 1)]:
            self.assertEqual(last(begin(), ("report", 0, 5, 9), ("report",) + wrong), [-1], wrong)

    def test_a_sensor_may_report_at_each_tick(self):
        told = run(begin(n=1, f=0), ("report", 0, 5, 9), ("tick", 2), ("report", 0, 5, 9), ("tick", 1), ("report", 0, 9, 9))
        self.assertEqual(told[1:], [[0, 1], [0, 2], [0, 1], [0, 3], [0, 1]])


class TickTest(unittest.TestCase):
    def test_answers_the_tick_that_is_now(self):
        self.assertEqual(run(begin(), ("tick", 1), ("tick", 5), ("tick", 93))[1:], [[0, 1], [0, 6], [0, 99]])
        self.assertEqual(last(begin(), ("tick", 99)), [0, 99])

    def test_no_place_behind_99(self):
        told = run(
            begin(), ("tick", 100), ("tick", 98), ("tick", 2), ("tick", 1), ("tick", 1), ("tick", 100),
            ("check", 0, [5] * 100))
        self.assertEqual(told[1:], [[-5], [0, 98], [-5], [0, 99], [-5], [-5], [0, 1]])

    def test_out_of_range_even_where_there_is_no_place(self):
        for k in [0, -1, 101, HUGE, -HUGE]:
            self.assertEqual(
                run(begin(), ("tick", k), ("tick", 99), ("tick", k), ("check", 0, [5] * 100))[1:],
                [[-1], [0, 99], [-1], [0, 1]], k)

    def test_many_ticks_at_once_are_as_many_single_ones(self):
        start = (begin(low=0, high=30, down=3, up=5), ("report", 0, 10, 11), ("report", 1, 10, 12), ("report", 2, 30, 30))
        at_once = last(*start, ("tick", 3), ("witness", 26))
        singly = last(*start, ("tick", 1), ("tick", 1), ("tick", 1), ("witness", 26))
        self.assertEqual(at_once, singly)
        self.assertEqual(at_once, [0, 4, 11, 16, 21, 26])

    def test_a_refused_tick_forgets_no_report(self):
        told = run(begin(), ("report", 0, 5, 9), ("tick", 100), ("tick", 0), ("report", 0, 5, 9))
        self.assertEqual(told[2:], [[-5], [-1], [-3]])


if __name__ == "__main__":
    unittest.main()
