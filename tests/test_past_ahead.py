"""Calls 10, 11 and 18: where the truth can have been, where it can be later, and how much each tick left open."""

import unittest

from tests.lines import begin, last, run

HUGE = 10 ** 18
BIG = 10 ** 9
NO_SET = (begin(n=3, f=1), ("report", 0, 1, 1), ("report", 1, 3, 3), ("report", 2, 5, 5))
ONE_SET = (begin(n=3, f=1), ("report", 0, 10, 20), ("report", 1, 15, 30), ("report", 2, 50, 60))
# Nobody lies; the second report narrows the ticks before it.
NARROWED = (
    begin(n=2, f=0, low=0, high=100, down=1, up=2), ("report", 0, 10, 40), ("tick", 5), ("report", 1, 30, 31))


class PastTest(unittest.TestCase):
    def test_later_reports_narrow_each_earlier_tick(self):
        for tick, ends in [(0, (20, 36)), (1, (22, 35)), (2, (24, 34)), (3, (26, 33)), (4, (28, 32)), (5, (30, 31))]:
            self.assertEqual(last(*NARROWED, ("past", tick)), [0, 1] + list(ends), tick)

    def test_earlier_reports_narrow_it_too(self):
        start = (begin(n=1, f=0, down=1, up=2), ("report", 0, 50, 50), ("tick", 3), ("report", 0, 0, 100))
        for tick, ends in [(0, (50, 50)), (1, (49, 52)), (2, (48, 54)), (3, (47, 56))]:
            self.assertEqual(last(*start, ("past", tick)), [0, 1] + list(ends), tick)

    def test_reports_between_narrow_both_sides(self):
        start = (
            begin(n=1, f=0, down=1, up=2), ("tick", 2), ("report", 0, 50, 50), ("tick", 2))
        for tick, ends in [(0, (46, 52)), (1, (48, 51)), (2, (50, 50)), (3, (49, 52)), (4, (48, 54))]:
            self.assertEqual(last(*start, ("past", tick)), [0, 1] + list(ends), tick)

    def test_now_is_as_places(self):
        told = run(*NARROWED, ("past", 5), ("places",))
        self.assertEqual(told[-2], told[-1])
        self.assertEqual(last(begin(low=-3, high=9), ("past", 0)), [0, 1, -3, 9])

    def test_the_room_bounds_the_past(self):
        start = (begin(n=1, f=0, low=0, high=30, down=5, up=5), ("tick", 9), ("report", 0, 0, 2))
        for tick, most in [(0, 30), (3, 30), (4, 27), (8, 7), (9, 2)]:
            self.assertEqual(last(*start, ("past", tick)), [0, 1, 0, most], tick)

    def test_a_later_report_shows_a_liar_and_so_narrows(self):
        start = (begin(n=2, f=1, down=0, up=0), ("report", 0, 10, 20), ("report", 1, 40, 60))
        self.assertEqual(last(*start, ("past", 0)), [0, 2, 10, 20, 40, 60])
        seen = start + (("tick", 1), ("report", 0, 30, 31))
        self.assertEqual(run(*seen, ("past", 0), ("past", 1))[-2:], [[0, 1, 40, 60], [0, 1, 40, 60]])

    def test_each_piece_has_one_set_of_liars_over_all_ticks(self):
        told = run(
            begin(n=2, f=1, down=0, up=1), ("report", 0, 10, 12), ("report", 1, 40, 42), ("tick", 2),
            ("report", 0, 13, 50), ("report", 1, 10, 41), ("past", 0), ("past", 1), ("past", 2))
        self.assertEqual(told[-3:], [[0, 2, 11, 12, 40, 41], [0, 2, 12, 13, 40, 41], [0, 2, 13, 14, 40, 41]])

    def test_pieces_join(self):
        told = last(begin(n=2, f=1), ("report", 0, 21, 60), ("report", 1, 10, 20), ("tick", 1), ("past", 0))
        self.assertEqual(told, [0, 1, 10, 60])

    def test_no_set(self):
        told = run(*NO_SET, ("past", 0), ("tick", 2), ("past", 0), ("past", 1), ("past", 2))
        self.assertEqual(told[4:], [[0, 0], [0, 2], [0, 0], [0, 0], [0, 0]])
        late = run(begin(n=1, f=0), ("tick", 2), ("report", 0, 101, 102), ("past", 0), ("past", 1), ("past", 2))
        self.assertEqual(late[3:], [[0, 0]] * 3)

    def test_just_one_set(self):
        told = run(*ONE_SET, ("tick", 1), ("report", 0, 10, 15), ("past", 0), ("past", 1))
        self.assertEqual(told[-2:], [[0, 1, 15, 16], [0, 1, 14, 15]])

    def test_with_no_liars(self):
        told = last(begin(n=2, f=0), ("report", 0, 5, 9), ("report", 1, 8, 20), ("tick", 1), ("past", 0))
        self.assertEqual(told, [0, 1, 8, 9])

    def test_behind_an_unsay(self):
        told = run(*NARROWED, ("unsay", 1), ("past", 0), ("past", 5))
        self.assertEqual(told[-2:], [[0, 1, 10, 40], [0, 1, 5, 50]])

    def test_the_ticks_range(self):
        for tick in [-1, 6, 99, HUGE, -HUGE]:
            told = run(*NARROWED, ("past", tick), ("places",), ("report", 1, 0, 0), ("reports", 5))
            self.assertEqual(told[-4:], [[-1], [0, 1, 30, 31], [-3], [0, 1, 30, 31]], tick)
        self.assertEqual(run(begin(), ("past", -1), ("past", 0), ("past", 1))[1:], [[-1], [0, 1, 0, 100], [-1]])
        told = run(begin(), ("tick", 99), ("past", 0), ("past", 99), ("past", 100))
        self.assertEqual(told[2:], [[0, 1, 0, 100], [0, 1, 0, 100], [-1]])

    def test_greatest_bounds(self):
        start = (begin(n=1, f=0, low=-BIG, high=BIG, down=BIG, up=0), ("tick", 2), ("report", 0, -2 * BIG, -BIG))
        self.assertEqual(run(*start, ("past", 0), ("past", 1))[-2:], [[0, 1, -BIG, BIG], [0, 1, -BIG, 0]])


class AheadTest(unittest.TestCase):
    start = (begin(n=2, f=1, low=0, high=100, down=1, up=2), ("report", 0, 50, 60), ("report", 1, 10, 20))

    def test_each_piece_widens_until_they_join(self):
        for k, pieces in [
                (0, [10, 20, 50, 60]), (1, [9, 22, 49, 62]), (9, [1, 38, 41, 78]), (10, [0, 80]), (20, [0, 100]),
                (1000, [0, 100])]:
            told = last(*self.start, ("ahead", k))
            self.assertEqual(told, [0, len(pieces) // 2] + pieces, k)

    def test_neighbours_join(self):
        start = (begin(n=2, f=1, down=0, up=1), ("report", 0, 10, 10), ("report", 1, 14, 14))
        for k, pieces in [(2, [2, 10, 12, 14, 16]), (3, [1, 10, 17]), (4, [1, 10, 18])]:
            self.assertEqual(last(*start, ("ahead", k)), [0] + pieces, k)

    def test_is_as_places_when_the_ticks_went_by(self):
        for k in [1, 4, 9, 10, 40]:
            told = run(*self.start, ("ahead", k), ("tick", k), ("places",))
            self.assertEqual(told[-3], told[-1])

    def test_may_go_beyond_the_last_tick(self):
        told = run(*self.start, ("tick", 99), ("ahead", 0), ("ahead", 1000), ("tick", 1))
        self.assertEqual(told[-3:], [[0, 1, 0, 100], [0, 1, 0, 100], [-5]])

    def test_nothing_moves_by_it(self):
        told = run(*self.start, ("ahead", 5), ("ahead", 5), ("places",), ("tick", 1))
        self.assertEqual(told[-4], told[-3])
        self.assertEqual(told[-2:], [[0, 2, 10, 20, 50, 60], [0, 1]])

    def test_a_still_room(self):
        told = run(begin(n=1, f=0, down=0, up=0), ("report", 0, 3, 4), ("ahead", 1), ("ahead", 1000))
        self.assertEqual(told[2:], [[0, 1, 3, 4]] * 2)

    def test_greatest_bounds(self):
        start = (begin(n=1, f=0, low=-BIG, high=BIG, down=BIG, up=1), ("report", 0, 5, 5))
        self.assertEqual(last(*start, ("ahead", 1)), [0, 1, 5 - BIG, 6])
        self.assertEqual(last(*start, ("ahead", 1000)), [0, 1, -BIG, 1005])

    def test_no_set(self):
        told = run(*NO_SET, ("ahead", 0), ("ahead", 1), ("ahead", 1000))
        self.assertEqual(told[4:], [[0, 0]] * 3)

    def test_just_one_set(self):
        self.assertEqual(last(*ONE_SET, ("ahead", 3)), [0, 1, 12, 26])

    def test_with_no_liars(self):
        self.assertEqual(last(*NARROWED, ("ahead", 2)), [0, 1, 28, 35])

    def test_the_range_of_k(self):
        for k in [-1, 1001, HUGE, -HUGE]:
            for start in [self.start, NO_SET]:
                self.assertEqual(run(*start, ("ahead", k), ("tick", 1))[-2:], [[-1], [0, 1]], k)


class WidthsTest(unittest.TestCase):
    def test_counts_numbers_not_pieces(self):
        told = last(begin(n=2, f=1), ("report", 0, 50, 60), ("report", 1, 10, 20), ("widths",))
        self.assertEqual(told, [0, 22])

    def test_a_number_in_several_spans_counts_once(self):
        told = last(begin(n=2, f=1), ("report", 0, 10, 60), ("report", 1, 20, 30), ("widths",))
        self.assertEqual(told, [0, 51])

    def test_one_for_each_tick_by_the_reports_up_to_it(self):
        self.assertEqual(last(*NARROWED, ("widths",)), [0, 31, 34, 37, 40, 43, 2])

    def test_later_reports_do_not_narrow_it(self):
        told = run(*NARROWED, ("tick", 1), ("report", 0, 33, 33), ("widths",), ("past", 0))
        self.assertEqual(told[-2:], [[0, 31, 34, 37, 40, 43, 2, 1], [0, 1, 21, 36]])

    def test_at_the_beginning(self):
        self.assertEqual(last(begin(low=-3, high=9), ("widths",)), [0, 13])
        self.assertEqual(last(begin(low=-BIG, high=BIG), ("widths",)), [0, 2 * BIG + 1])
        self.assertEqual(last(begin(low=4, high=4), ("tick", 2), ("widths",)), [0, 1, 1, 1])

    def test_up_to_the_last_tick(self):
        told = last(begin(n=1, f=0, low=0, high=400, down=0, up=4), ("report", 0, 0, 0), ("tick", 99), ("widths",))
        self.assertEqual(told, [0] + [1 + 4 * tick for tick in range(100)])

    def test_behind_an_unsay(self):
        self.assertEqual(last(*NARROWED, ("unsay", 1), ("widths",)), [0, 31, 34, 37, 40, 43, 46])
        told = last(*NARROWED, ("unsay", 1), ("report", 1, 35, 35), ("tick", 1), ("widths",))
        self.assertEqual(told, [0, 31, 34, 37, 40, 43, 1, 4])

    def test_asked_twice_while_reports_come_and_go(self):
        told = run(
            begin(n=1, f=0), ("widths",), ("report", 0, 5, 9), ("widths",), ("unsay", 0), ("widths",), ("tick", 1),
            ("widths",), ("report", 0, 5, 9), ("widths",), ("widths",))
        self.assertEqual(
            told[1::2] + told[-1:], [[0, 101], [0, 5], [0, 101], [0, 101, 101], [0, 101, 5], [0, 101, 5]])

    def test_no_set(self):
        self.assertEqual(last(*NO_SET, ("widths",)), [0, 0])
        self.assertEqual(last(*NO_SET, ("tick", 2), ("widths",)), [0, 0, 0, 0])
        told = last(begin(n=1, f=0), ("tick", 1), ("report", 0, 101, 102), ("tick", 1), ("widths",))
        self.assertEqual(told, [0, 101, 0, 0])

    def test_just_one_set(self):
        self.assertEqual(last(*ONE_SET, ("tick", 1), ("widths",)), [0, 6, 9])

    def test_with_no_liars(self):
        self.assertEqual(last(begin(n=2, f=0), ("report", 0, 5, 9), ("report", 1, 8, 20), ("widths",)), [0, 2])


if __name__ == "__main__":
    unittest.main()
