"""Promise 9: check."""

import unittest

from helper import (
    BIG, TWO_THREES, UNLIKE_EVEN, UNLIKE_ODD, all_rounds, ask, check, circle, last, left, match, met, own, pair, played,
    result, standing, teams,
)


class Cost(unittest.TestCase):
    def test_before_any_result(self):
        for n in range(2, 13):
            row = list(range(1, n // 2 * 2 + 1))
            self.assertEqual(last(teams(n), check(*row)), [0, 0, 0])
            self.assertEqual(last(teams(n), check(*reversed(row))), [0, 0, 0])

    def test_even(self):
        rows = (
            ((5, 1, 2, 6, 3, 4), 256), ((5, 2, 1, 3, 4, 6), 160), ((5, 4, 1, 2, 3, 6), 160), ((5, 4, 1, 3, 2, 6), 288),
        )
        for row, cost in rows:
            self.assertEqual(last(*UNLIKE_EVEN, check(*row)), [0, 0, cost])
            self.assertEqual(last(*UNLIKE_EVEN, check(*reversed(row))), [0, 0, cost])

    def test_odd(self):
        # Who sits out costs nothing.
        for row, cost in (((3, 5, 1, 4, 2, 7), 68), ((3, 1, 5, 2, 4, 7), 36), ((6, 7, 1, 3, 2, 5), 56)):
            self.assertEqual(last(*UNLIKE_ODD, check(*row)), [0, 0, cost])

    def test_points_of_who_sat_out(self):
        # 12 for 3, 16 for 1, 4 for 2.
        calls = [teams(3), *played(1, (1, 2), 9)]
        self.assertEqual(ask(*calls, check(3, 1), check(3, 2))[-2:], [[0, 0, 16], [0, 0, 64]])

    def test_units_do_not_matter(self):
        # All four lead or trail by 10 points, with unlike units.
        calls = [teams(4), own(1, 2, 3, 4), result(1, 1, 2, 25), result(1, 3, 4, 768)]
        self.assertEqual(ask(*calls, check(1, 3, 2, 4), check(1, 4, 2, 3))[-2:], [[0, 0, 0], [0, 0, 800]])

    def test_results_missing(self):
        calls = [teams(4), own(1, 2, 3, 4)]
        self.assertEqual(last(*calls, check(1, 3, 2, 4)), [0, 0, 0])
        # 14 for 1, 6 for 2, none yet for 3 and 4.
        calls.append(match(1, 2, 170, 0))
        self.assertEqual(ask(*calls, standing(), pair(0))[-2:], [
            [0, 4, 1, 14, 5, 0, 2, 6, -5, 0, 3, 0, 0, 0, 4, 0, 0, 0], [-3],
        ])
        self.assertEqual(last(*calls, check(1, 3, 2, 4)), [0, 0, 14 * 14 + 6 * 6])
        self.assertEqual(last(*calls, result(1, 4, 3, 4), check(1, 3, 2, 4)), [0, 0, 8 * 8 + 8 * 8])

    def test_a_correction_is_seen(self):
        calls = [teams(4), *played(1, (1, 2, 3, 4), 25)]
        told = ask(*calls, check(1, 4, 2, 3), result(1, 1, 2, 0), check(1, 4, 2, 3))
        self.assertEqual([told[-3], told[-1]], [[0, 0, 800], [0, 0, 200]])

    def test_as_pair_tells_it(self):
        for calls in (UNLIKE_EVEN, UNLIKE_ODD):
            for mode in (0, 1):
                self.assertEqual(last(*calls, check(*last(*calls, pair(mode))[3:]))[:2], [0, 0])


class Faults(unittest.TestCase):
    def assert_fault(self, number, calls, row):
        """The fault is told, with no cost; own refuses the row."""
        self.assertEqual(last(*calls, check(*row)), [0, number, 0])
        told = ask(*calls, check(*row), standing(), own(*row))
        self.assertEqual(told[-2:], [last(*calls, standing()), [-6]])

    def test_a_team_twice(self):
        for row in ((1, 2, 2, 3), (1, 1, 2, 3), (1, 2, 3, 1), (1, 1, 2, 2), (3, 3, 3, 3), (1, 2, 2, 1)):
            self.assert_fault(1, [teams(4)], row)
            self.assert_fault(1, [teams(5)], row)
        self.assert_fault(1, [teams(3)], (2, 2))
        self.assert_fault(1, [teams(2)], (1, 1))

    def test_a_number_above_n(self):
        self.assert_fault(1, [teams(2)], (1, 3))
        self.assert_fault(1, [teams(2)], (12, 1))
        self.assert_fault(1, [teams(3)], (4, 2))
        self.assert_fault(1, [teams(5)], (6, 2, 3, 5))
        self.assert_fault(1, [teams(11)], range(3, 13))
        self.assertEqual(last(teams(11), check(*range(2, 12))), [0, 0, 0])

    def test_too_few_pairs(self):
        for n in range(2, 13):
            for size in range(0, n // 2 * 2, 2):
                self.assert_fault(1, [teams(n)], range(1, size + 1))

    def test_too_many_pairs(self):
        for n in range(2, 12):
            for size in range(n // 2 * 2 + 2, 13, 2):
                self.assert_fault(1, [teams(n)], range(1, size + 1))
                self.assert_fault(1, [teams(n)], [1 + at % n for at in range(size)])

    def test_who_sat_out_before(self):
        calls = [teams(5), *played(1, (1, 2, 3, 4), 9)]
        self.assert_fault(2, calls, (1, 3, 2, 4))
        calls += played(2, (1, 3, 2, 5))
        self.assert_fault(2, calls, (1, 4, 2, 3))
        self.assert_fault(2, calls, (1, 5, 2, 3))
        self.assertEqual(last(*calls, check(1, 5, 2, 4))[:2], [0, 0])

    def test_two_that_have_met(self):
        calls = [teams(4), *played(1, (1, 2, 3, 4), 9)]
        for row in ((1, 2, 3, 4), (2, 1, 4, 3), (4, 3, 2, 1)):
            self.assert_fault(3, calls, row)
        calls += played(2, (1, 3, 2, 4), 4)
        for row in ((1, 2, 3, 4), (3, 4, 1, 2), (4, 2, 3, 1)):
            self.assert_fault(3, calls, row)
        self.assertEqual(last(*calls, check(4, 1, 3, 2))[:2], [0, 0])
        self.assert_fault(3, [teams(5), *played(1, (1, 2, 3, 4), 9)], (1, 2, 3, 5))

    def test_one_of_the_pairs_is_enough(self):
        calls = [teams(6), *played(1, (1, 2, 3, 4, 5, 6), 9)]
        for row in ((2, 1, 3, 5, 4, 6), (1, 5, 3, 4, 2, 6), (1, 3, 2, 4, 6, 5)):
            self.assert_fault(3, calls, row)

    def test_the_first_of_several(self):
        calls = [teams(5), *played(1, (1, 2, 3, 4), 9)]
        # 5 isn't named and 1 and 2 have met.
        self.assert_fault(2, calls, (1, 2, 3, 4))
        # 5 isn't named, and a team twice, a number above n, too few and too many pairs.
        for row in ((1, 2, 3, 3), (1, 2, 3, 6), (1, 2), (1, 2, 3, 4, 1, 2), ()):
            self.assert_fault(1, calls, row)
        # 1 and 2 have met.
        for row in ((1, 2, 5, 5), (1, 2, 5, 7), (5, 3, 1, 2, 4, 6)):
            self.assert_fault(1, calls, row)

    def test_last_round_not_whole(self):
        calls = [teams(4), own(1, 2, 3, 4)]
        self.assertEqual(ask(*calls, check(1, 2, 3, 4), check(1, 3, 2, 4), own(1, 3, 2, 4))[-3:], [
            [0, 3, 0], [0, 0, 0], [-3],
        ])

    def test_eleven_rounds(self):
        for n, number in ((11, 2), (12, 3)):
            calls = all_rounds(n)
            row = circle(n)[4]
            self.assertEqual(ask(*calls, check(*row), check(1, 2), own(*row))[-3:], [[0, number, 0], [0, 1, 0], [-8]])

    def test_no_pairing_left(self):
        self.assertEqual(last(*TWO_THREES, check(1, 2, 3, 4, 5, 6)), [0, 3, 0])


class Check(unittest.TestCase):
    def test_nothing_is_changed(self):
        calls = [teams(5), *played(1, (1, 2, 3, 4), 9)]
        asked = [standing(), left(), pair(0), met(2, 5)]
        told = ask(*calls, *asked, check(1, 4, 2, 5), check(1, 2), check(1, 3, 2, 4), *asked)
        self.assertEqual(told[-4:], told[len(calls):len(calls) + 4])

    def test_odd_number_of_numbers(self):
        for row in ((1,), (1, 2, 3), (1, 2, 3, 4, 5), tuple(range(1, 12)), tuple([1] * 29)):
            self.assertEqual(ask(teams(4), check(*row), check(1, 2, 3, 4)), [[0], [-1], [0, 0, 0]])

    def test_too_many_numbers(self):
        for size in (13, 14, 16, 29, 30):
            row = [1 + at % 12 for at in range(size)]
            self.assertEqual(ask(teams(12), check(*row), check(*row[:12])), [[0], [-1], [0, 0, 0]])

    def test_numbers_out_of_range(self):
        for team in (0, -1, 13, BIG, -BIG):
            for row in ((team, 2, 3, 4), (1, 2, 3, team), (1, team)):
                self.assertEqual(ask(teams(4), check(*row), check(1, 2, 3, 4)), [[0], [-1], [0, 0, 0]])

    def test_order_of_the_refusals(self):
        self.assertEqual(last(check(1, 2, 3)), [-1])
        self.assertEqual(last(check(1, 13)), [-1])
        self.assertEqual(last(check(1, 2)), [-2])
        self.assertEqual(last(check()), [-2])


if __name__ == "__main__":
    unittest.main()
