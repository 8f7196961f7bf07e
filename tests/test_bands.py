"""Calls 12, 13 and 16: whether the truth is surely in a band, how soon it can leave it, and its hull."""

import unittest

from tests.lines import begin, last, run

HUGE = 10 ** 18
BIG = 10 ** 9
NO_SET = (begin(n=3, f=1), ("report", 0, 1, 1), ("report", 1, 3, 3), ("report", 2, 5, 5))
ONE_SET = (begin(n=3, f=1), ("report", 0, 10, 20), ("report", 1, 15, 30), ("report", 2, 50, 60))
TWO_PIECES = (begin(n=2, f=1, down=1, up=2), ("report", 0, 50, 60), ("report", 1, 10, 20))
NO_LIARS = (begin(n=1, f=0, low=0, high=1000, down=1, up=2), ("report", 0, 500, 510))


class SureTest(unittest.TestCase):
    def sure(self, start, cases):
        for a, b, told in cases:
            self.assertEqual(last(*start, ("sure", a, b)), [0, told], (a, b))

    def test_all_are_in_the_band(self):
        self.sure(TWO_PIECES, [(10, 60, 1), (9, 61, 1), (-HUGE, HUGE, 1)])

    def test_some_are(self):
        self.sure(TWO_PIECES, [
            (11, 60, 0), (10, 59, 0), (10, 20, 0), (50, 60, 0), (-HUGE, 10, 0), (60, HUGE, 0), (20, 50, 0), (20, 49, 0),
            (21, 50, 0), (15, 15, 0), (12, 55, 0), (55, 55, 0)])

    def test_none_is(self):
        self.sure(TWO_PIECES, [
            (21, 49, 2), (30, 30, 2), (-HUGE, 9, 2), (61, HUGE, 2), (HUGE, HUGE, 2), (-HUGE, -HUGE, 2)])

    def test_a_single_number(self):
        start = (begin(n=1, f=0), ("report", 0, 7, 7))
        self.sure(start, [(7, 7, 1), (6, 7, 1), (7, 8, 1), (6, 6, 2), (8, 8, 2)])

    def test_just_one_set(self):
        self.sure(ONE_SET, [(15, 20, 1), (15, 19, 0), (16, 20, 0), (21, 60, 2), (20, 20, 0)])

    def test_with_no_liars(self):
        self.sure(NO_LIARS, [(500, 510, 1), (501, 510, 0), (511, 600, 2)])

    def test_no_set(self):
        told = run(*NO_SET, ("sure", 0, 100), ("sure", 5, 5), ("tick", 1), ("sure", -HUGE, HUGE))
        self.assertEqual(told[4:], [[-4], [-4], [0, 1], [-4]])

    def test_a_above_b(self):
        for a, b in [(1, 0), (HUGE, -HUGE), (HUGE, HUGE - 1), (-HUGE + 1, -HUGE), (16, 15)]:
            for start in [TWO_PIECES, NO_SET]:
                told = run(*start, ("places",), ("sure", a, b), ("places",))
                self.assertEqual(told[-2], [-1], (a, b))
                self.assertEqual(told[-1], told[-3])


class LeavesTest(unittest.TestCase):
    def leaves(self, start, cases):
        for a, b, told in cases:
            self.assertEqual(last(*start, ("leaves", a, b)), [0] + told, (a, b))

    def test_at_once(self):
        self.leaves(TWO_PIECES, [
            (10, 59, [1, 0]), (11, 60, [1, 0]), (21, 49, [1, 0]), (10, 20, [1, 0]), (50, 60, [1, 0]), (30, 30, [1, 0]),
            (HUGE, HUGE, [1, 0]), (-HUGE, -HUGE, [1, 0])])

    def test_after_a_tick(self):
        self.leaves(TWO_PIECES, [(10, 60, [1, 1]), (10, 100, [1, 1]), (10, HUGE, [1, 1]), (9, 61, [1, 1])])

    def test_downwards_and_upwards(self):
        self.leaves(NO_LIARS, [
            (491, HUGE, [1, 10]), (490, HUGE, [1, 11]), (-HUGE, 529, [1, 10]), (-HUGE, 530, [1, 11]),
            (490, 529, [1, 10]), (491, 560, [1, 10]), (499, 560, [1, 2])])

    def test_two_hundred_ticks_and_one_beyond(self):
        self.leaves(NO_LIARS, [
            (302, HUGE, [1, 199]), (301, HUGE, [1, 200]), (300, HUGE, [0]), (-HUGE, 908, [1, 200]),
            (-HUGE, 909, [1, 200]), (-HUGE, 910, [0]), (300, 909, [1, 200]), (300, 910, [0])])

    def test_a_still_room(self):
        start = (begin(n=1, f=0, down=0, up=0), ("report", 0, 5, 9))
        self.leaves(start, [(5, 9, [0]), (4, 10, [0]), (6, 9, [1, 0]), (5, 8, [1, 0])])

    def test_one_way_alone(self):
        falls = (begin(n=1, f=0, down=1, up=0), ("report", 0, 5, 9))
        self.leaves(falls, [(5, 9, [1, 1]), (0, 9, [0]), (1, 9, [1, 5]), (5, 8, [1, 0])])
        rises = (begin(n=1, f=0, down=0, up=1), ("report", 0, 5, 9))
        self.leaves(rises, [(5, 9, [1, 1]), (5, 100, [0]), (5, 99, [1, 91]), (6, 100, [1, 0])])

    def test_a_band_that_reaches_the_bounds(self):
        self.leaves(TWO_PIECES, [
            (0, 100, [0]), (-HUGE, HUGE, [0]), (0, 99, [1, 20]), (1, 100, [1, 10]), (1, 99, [1, 10])])
        self.leaves((begin(low=4, high=4, down=9, up=9),), [(4, 4, [0]), (5, 5, [1, 0])])

    def test_nothing_more_is_reported(self):
        told = run(
            *NO_LIARS, ("leaves", 490, 600), ("tick", 9), ("leaves", 490, 600), ("tick", 90), ("leaves", 0, 1000))
        self.assertEqual(told[2:], [[0, 1, 11], [0, 9], [0, 1, 2], [0, 99], [0, 0]])

    def test_is_the_least_k_of_ahead(self):
        for a, b in [(5, 80), (10, 90), (1, 100), (0, 70)]:
            k = last(*TWO_PIECES, ("leaves", a, b))[2]
            before = last(*TWO_PIECES, ("ahead", k - 1))
            then = last(*TWO_PIECES, ("ahead", k))
            self.assertTrue(a <= before[2] and before[-1] <= b)
            self.assertFalse(a <= then[2] and then[-1] <= b)

    def test_greatest_bounds(self):
        start = (begin(n=1, f=0, low=-BIG, high=BIG, down=BIG, up=BIG), ("report", 0, 0, 0))
        self.leaves(start, [(-BIG, BIG, [0]), (1 - BIG, BIG, [1, 1]), (-BIG, BIG - 1, [1, 1]), (0, 0, [1, 1])])

    def test_just_one_set(self):
        self.leaves(ONE_SET, [(15, 20, [1, 1]), (10, 60, [1, 6]), (0, 30, [1, 6])])

    def test_no_set(self):
        told = run(*NO_SET, ("leaves", 0, 100), ("leaves", 50, 50), ("tick", 1), ("leaves", -HUGE, HUGE))
        self.assertEqual(told[4:], [[-4], [-4], [0, 1], [-4]])

    def test_a_above_b(self):
        for a, b in [(1, 0), (HUGE, -HUGE), (HUGE, HUGE - 1), (-HUGE + 1, -HUGE), (16, 15)]:
            for start in [TWO_PIECES, NO_SET]:
                told = run(*start, ("places",), ("leaves", a, b), ("places",))
                self.assertEqual(told[-2], [-1], (a, b))
                self.assertEqual(told[-1], told[-3])


class HullTest(unittest.TestCase):
    def test_the_whole_room_at_first(self):
        self.assertEqual(last(begin(low=-7, high=12), ("hull",)), [0, -7, 12])
        self.assertEqual(last(begin(low=-BIG, high=BIG), ("hull",)), [0, -BIG, BIG])

    def test_over_several_pieces(self):
        self.assertEqual(last(*TWO_PIECES, ("hull",)), [0, 10, 60])
        self.assertEqual(last(*TWO_PIECES, ("tick", 3), ("hull",)), [0, 7, 66])
        told = last(
            begin(n=4, f=3), ("report", 0, 80, 90), ("report", 1, 35, 50), ("report", 2, 10, 20), ("report", 3, 30, 40),
            ("hull",))
        self.assertEqual(told, [0, 10, 90])

    def test_a_single_number(self):
        self.assertEqual(last(begin(n=1, f=0), ("report", 0, 7, 7), ("hull",)), [0, 7, 7])

    def test_just_one_set(self):
        self.assertEqual(last(*ONE_SET, ("hull",)), [0, 15, 20])

    def test_with_no_liars(self):
        self.assertEqual(last(*NO_LIARS, ("hull",)), [0, 500, 510])

    def test_no_set(self):
        self.assertEqual(run(*NO_SET, ("hull",), ("tick", 1), ("hull",))[4:], [[-4], [0, 1], [-4]])
        self.assertEqual(run(begin(n=1, f=0), ("report", 0, 101, 200), ("hull",))[-1], [-4])
        self.assertEqual(run(*NO_SET, ("hull",), ("unsay", 2), ("hull",))[4:], [[-4], [0], [0, 1, 3]])


if __name__ == "__main__":
    unittest.main()
