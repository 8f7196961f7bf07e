"""Calls 3, 4 and 6: where the truth can be, and whether a row is a course."""

import unittest

from tests.lines import begin, last, run

BIG = 10 ** 9
HUGE = 10 ** 18


class PlacesTest(unittest.TestCase):
    def test_the_whole_room_at_first(self):
        self.assertEqual(last(begin(low=-7, high=12), ("places",)), [0, 1, -7, 12])
        self.assertEqual(last(begin(low=4, high=4), ("places",)), [0, 1, 4, 4])

    def test_pieces_ascend(self):
        told = last(begin(n=2, f=1), ("report", 0, 50, 60), ("report", 1, 10, 20), ("places",))
        self.assertEqual(told, [0, 2, 10, 20, 50, 60])

    def test_neighbours_are_one_piece(self):
        for a, pieces in [(22, [0, 2, 10, 20, 22, 60]), (21, [0, 1, 10, 60]), (20, [0, 1, 10, 60])]:
            told = last(begin(n=2, f=1), ("report", 0, a, 60), ("report", 1, 10, 20), ("places",))
            self.assertEqual(told, pieces)

    def test_a_piece_within_another_is_not_told(self):
        told = last(begin(n=2, f=1), ("report", 0, 10, 60), ("report", 1, 20, 30), ("places",))
        self.assertEqual(told, [0, 1, 10, 60])

    def test_later_pieces_join_too(self):
        told = last(
            begin(n=5, f=4), ("report", 0, 80, 90), ("report", 1, 35, 50), ("report", 2, 10, 20), ("report", 3, 30, 40),
            ("report", 4, 51, 52), ("places",))
        self.assertEqual(told, [0, 3, 10, 20, 30, 52, 80, 90])

    def test_most_sensors_agree(self):
        told = last(begin(n=3, f=1), ("report", 0, 10, 20), ("report", 1, 15, 30), ("report", 2, 25, 40), ("places",))
        self.assertEqual(told, [0, 2, 15, 20, 25, 30])

    def test_just_one_set(self):
        told = last(begin(n=3, f=1), ("report", 0, 10, 20), ("report", 1, 15, 30), ("report", 2, 50, 60), ("places",))
        self.assertEqual(told, [0, 1, 15, 20])

    def test_no_set(self):
        told = last(begin(n=3, f=1), ("report", 0, 1, 1), ("report", 1, 3, 3), ("report", 2, 5, 5), ("places",))
        self.assertEqual(told, [0, 0])

    def test_with_no_liars(self):
        told = last(begin(n=2, f=0), ("report", 0, -50, 20), ("report", 1, 15, 300), ("places",))
        self.assertEqual(told, [0, 1, 15, 20])

    def test_moves_stay_in_the_room(self):
        start = (begin(n=1, f=0, low=0, high=30, down=3, up=5), ("report", 0, 10, 12))
        for k, pieces in [(1, [7, 17]), (3, [1, 27]), (4, [0, 30]), (90, [0, 30])]:
            self.assertEqual(last(*start, ("tick", k), ("places",)), [0, 1] + pieces)

    def test_a_liar_lies_always(self):
        told = last(
            begin(n=3, f=1, down=0, up=0), ("report", 0, 10, 20), ("report", 1, 15, 30), ("report", 2, 50, 60),
            ("tick", 1), ("report", 2, 16, 17), ("places",))
        self.assertEqual(told, [0, 1, 15, 20])

    def test_greatest_bounds(self):
        told = last(
            begin(n=1, f=0, low=-BIG, high=BIG, down=BIG, up=BIG), ("report", 0, -2 * BIG, 5), ("tick", 1), ("places",))
        self.assertEqual(told, [0, 1, -BIG, BIG])


class CanTest(unittest.TestCase):
    def test_at_the_ends_of_the_pieces(self):
        start = (begin(n=2, f=1), ("report", 0, 50, 60), ("report", 1, 10, 20))
        for v, told in [(9, 0), (10, 1), (20, 1), (21, 0), (49, 0), (50, 1), (60, 1), (61, 0)]:
            self.assertEqual(last(*start, ("can", v)), [0, told], v)

    def test_numbers_outside_of_the_room_are_no_refusal(self):
        for v in [-1, 101, HUGE, -HUGE]:
            self.assertEqual(last(begin(), ("can", v)), [0, 0])

    def test_no_set(self):
        self.assertEqual(last(begin(n=1, f=0), ("report", 0, 200, 300), ("can", 50)), [0, 0])

    def test_with_no_liars(self):
        start = (begin(n=2, f=0), ("report", 0, 5, 7), ("tick", 2))
        for v, told in [(2, 0), (3, 1), (11, 1), (12, 0)]:
            self.assertEqual(last(*start, ("can", v)), [0, told], v)


class CheckTest(unittest.TestCase):
    start = (
        begin(n=3, f=1, low=0, high=30, down=3, up=5), ("report", 0, 10, 12), ("report", 1, 20, 22),
        ("tick", 1), ("tick", 1), ("report", 1, 15, 30))

    def check(self, told, row):
        return last(*self.start, ("check", told, row))

    def test_a_course_that_can_be(self):
        self.assertEqual(self.check(1, [20, 25, 30]), [0, 1])
        self.assertEqual(self.check(1, [21, 18, 15]), [0, 1])
        self.assertEqual(self.check(2, [12, 9, 6]), [0, 1])

    def test_the_first_wrong_tick_by_the_reports(self):
        self.assertEqual(self.check(1, [19, 19, 19]), [0, 0, 0])
        self.assertEqual(self.check(1, [20, 17, 14]), [0, 0, 2])
        self.assertEqual(self.check(2, [13, 13, 13]), [0, 0, 0])
        self.assertEqual(self.check(4, [12, 12, 15]), [0, 0, 0])
        self.assertEqual(self.check(0, [20, 20, 20]), [0, 0, 0])

    def test_the_first_wrong_tick_by_the_moves(self):
        self.assertEqual(self.check(1, [20, 16, 15]), [0, 0, 1])
        self.assertEqual(self.check(1, [20, 26, 26]), [0, 0, 1])
        self.assertEqual(self.check(1, [20, 20, 16]), [0, 0, 2])
        self.assertEqual(self.check(1, [20, 25, 31]), [0, 0, 2])

    def test_the_first_wrong_tick_by_the_room(self):
        free = (begin(n=2, f=1, low=0, high=30, down=90, up=90), ("tick", 2))
        for row, wrong in [
                ([-1, 5, 5], 0), ([31, 5, 5], 0), ([0, -1, 5], 1), ([30, 31, 5], 1), ([0, 30, -1], 2), ([0, 30, 31], 2),
                ([HUGE, 5, 5], 0), ([0, -HUGE, 5], 1)]:
            self.assertEqual(last(*free, ("check", 1, row)), [0, 0, wrong], row)
        self.assertEqual(last(*free, ("check", 1, [0, 30, 0])), [0, 1])

    def test_a_smaller_set_than_f_and_the_empty_set(self):
        told = run(
            begin(n=4, f=2), ("report", 0, 5, 5), ("report", 1, 6, 6), ("check", 0, [5]), ("check", 1, [6]),
            ("check", 2, [5]), ("check", 3, [9]), ("check", 12, [9]))
        self.assertEqual(told[3:], [[0, 0, 0], [0, 1], [0, 1], [0, 1], [0, 0, 0]])

    def test_too_many_liars_come_before_all_else(self):
        for row in [[], [20, 25, 30], [99], [20, 25, 30, 30]]:
            self.assertEqual(self.check(3, row), [0, 0, -1], row)
            self.assertEqual(self.check(7, row), [0, 0, -1], row)
        self.assertEqual(last(begin(n=2, f=0), ("check", 2, [5])), [0, 0, -1])

    def test_a_row_that_is_too_short(self):
        self.assertEqual(self.check(1, []), [0, 0, 0])
        self.assertEqual(self.check(1, [20]), [0, 0, 1])
        self.assertEqual(self.check(1, [20, 25]), [0, 0, 2])

    def test_a_row_that_is_too_long(self):
        self.assertEqual(self.check(1, [20, 25, 30, 30]), [0, 0, 3])
        self.assertEqual(self.check(1, [20, 25, 30, 30, 99]), [0, 0, 3])
        self.assertEqual(self.check(1, [20, 20, 20] + [20] * 197), [0, 0, 3])
        self.assertEqual(last(begin(), ("tick", 99), ("check", 0, [5] * 101)), [0, 0, 100])

    def test_a_wrong_number_comes_before_a_wrong_length(self):
        self.assertEqual(self.check(1, [19]), [0, 0, 0])
        self.assertEqual(self.check(1, [20, 26]), [0, 0, 1])
        self.assertEqual(self.check(1, [20, 20, 14, 14]), [0, 0, 2])

    def test_the_sets_range(self):
        for told in [-1, 8, HUGE, -HUGE]:
            self.assertEqual(self.check(told, [20, 25, 30]), [-1], told)
        self.assertEqual(last(begin(n=9, f=4), ("check", 511, [5])), [0, 0, -1])
        self.assertEqual(last(begin(n=9, f=4), ("check", 512, [5])), [-1])
        self.assertEqual(last(begin(n=9, f=4), ("check", 480, [5])), [0, 1])

    def test_no_set_can_be_the_liars(self):
        told = run(begin(n=2, f=0), ("report", 0, 5, 5), ("report", 1, 6, 6), ("check", 0, [5]), ("check", 1, [6]))
        self.assertEqual(told[3:], [[0, 0, 0], [0, 0, -1]])


if __name__ == "__main__":
    unittest.main()
