"""Promise 3: own."""

import unittest

from helper import BIG, all_rounds, ask, last, met, own, pair, played, result, standing, teams


class Own(unittest.TestCase):
    def test_even(self):
        told = ask(teams(4), own(3, 1, 4, 2), met(1, 3), met(2, 4), met(1, 2), standing())
        self.assertEqual(told[1:], [
            [0, 1], [0, 1], [0, 1], [0, 0], [0, 4, 1, 0, 0, 0, 2, 0, 0, 0, 3, 0, 0, 0, 4, 0, 0, 0],
        ])

    def test_odd(self):
        told = ask(teams(5), own(5, 1, 4, 2), met(1, 5), met(2, 4), met(3, 4), standing())
        self.assertEqual(told[1:], [
            [0, 1], [0, 1], [0, 1], [0, 0],
            [0, 5, 3, 12, 0, 1, 1, 0, 0, 0, 2, 0, 0, 0, 4, 0, 0, 0, 5, 0, 0, 0],
        ])

    def test_number_of_the_round(self):
        calls = [teams(4), *played(1, (1, 2, 3, 4)), *played(2, (1, 3, 2, 4))]
        self.assertEqual(ask(*calls, own(1, 4, 2, 3), met(3, 2))[-2:], [[0, 3], [0, 3]])

    def test_as_many_teams_as_may_be(self):
        self.assertEqual(last(teams(12), own(*range(12, 0, -1))), [0, 1])
        self.assertEqual(last(teams(11), own(*range(11, 1, -1))), [0, 1])
        self.assertEqual(last(teams(2), own(2, 1)), [0, 1])

    def test_team_twice(self):
        for row in ((1, 2, 2, 3), (1, 1, 2, 3), (1, 2, 3, 1), (1, 1, 2, 2), (3, 3, 3, 3)):
            self.assertEqual(ask(teams(4), own(*row), standing(), own(1, 2, 3, 4))[1::2], [[-6], [0, 1]])
        self.assertEqual(last(teams(3), own(2, 2)), [-6])

    def test_team_above_n(self):
        self.assertEqual(last(teams(4), own(1, 2, 3, 5)), [-6])
        self.assertEqual(last(teams(5), own(6, 2, 3, 5)), [-6])
        self.assertEqual(last(teams(2), own(1, 12)), [-6])
        self.assertEqual(last(teams(3), own(4, 2)), [-6])

    def test_too_few_or_too_many_pairs(self):
        for n, row in ((4, (1, 2)), (6, (1, 2, 3, 4)), (7, (1, 2, 3, 4)), (5, (1, 2)), (2, ()), (3, ())):
            self.assertEqual(last(teams(n), own(*row)), [-6])
        for n, row in ((2, (1, 2, 1, 2)), (2, (1, 2, 3, 4)), (3, (1, 2, 3, 1)), (5, (1, 2, 3, 4, 5, 5))):
            self.assertEqual(last(teams(n), own(*row)), [-6])

    def test_who_sat_out_before(self):
        calls = [teams(5), *played(1, (1, 2, 3, 4))]
        self.assertEqual(last(*calls, own(1, 3, 2, 4)), [-6])
        self.assertEqual(last(*calls, own(1, 3, 2, 5)), [0, 2])
        calls += played(2, (1, 3, 2, 5))
        self.assertEqual(last(*calls, own(1, 5, 2, 3)), [-6])
        self.assertEqual(last(*calls, own(1, 4, 2, 3)), [-6])

    def test_two_that_have_met(self):
        calls = [teams(4), *played(1, (1, 2, 3, 4))]
        for row in ((1, 2, 3, 4), (2, 1, 4, 3), (4, 3, 2, 1)):
            self.assertEqual(ask(*calls, own(*row), own(1, 3, 2, 4))[-2:], [[-6], [0, 2]])
        calls += played(2, (1, 3, 2, 4))
        self.assertEqual(last(*calls, own(1, 2, 3, 4)), [-6])
        self.assertEqual(last(*calls, own(1, 4, 3, 2)), [0, 3])
        # One of the pairs is enough.
        self.assertEqual(last(teams(6), *played(1, (1, 2, 3, 4, 5, 6)), own(1, 3, 2, 4, 6, 5)), [-6])

    def test_need_not_be_the_next_pairing(self):
        calls = [teams(5), *played(1, (1, 2, 3, 4), 25)]
        self.assertEqual(last(*calls, pair(0))[1], 4)
        self.assertEqual(last(*calls, own(2, 3, 4, 5)), [0, 2])

    def test_odd_number_of_numbers(self):
        for row in ((1,), (1, 2, 3), (1, 2, 3, 4, 5), tuple(range(1, 12))):
            self.assertEqual(ask(teams(4), own(*row), own(1, 2, 3, 4)), [[0], [-1], [0, 1]])

    def test_too_many_numbers(self):
        for size in (13, 14, 29, 30):
            row = [1 + at % 12 for at in range(size)]
            self.assertEqual(ask(teams(12), own(*row), standing(), own(*range(1, 13)))[1::2], [[-1], [0, 1]])
        self.assertEqual(last(teams(12), own(*([1, 2] * 6))), [-6])

    def test_numbers_out_of_range(self):
        for team in (0, -1, 13, BIG, -BIG):
            for row in ((team, 2, 3, 4), (1, 2, 3, team)):
                self.assertEqual(ask(teams(4), own(*row), own(1, 2, 3, 4)), [[0], [-1], [0, 1]])

    def test_not_whole(self):
        calls = [teams(4), own(1, 2, 3, 4), result(1, 3, 4, 0)]
        self.assertEqual(ask(*calls, own(1, 3, 2, 4), met(1, 3))[-2:], [[-3], [0, 0]])
        self.assertEqual(last(*calls, result(1, 2, 1, 0), own(1, 3, 2, 4)), [0, 2])

    def test_full(self):
        for n in (11, 12):
            calls = all_rounds(n)
            self.assertEqual(last(*calls[:-1]), [0, 10, 10])
            for row in ((1, 2), tuple(range(1, n + 1 - n % 2)), ()):
                self.assertEqual(last(*calls, own(*row)), [-8])

    def test_ten_rounds_are_not_full(self):
        calls = all_rounds(12)
        self.assertEqual(ask(*calls)[-7], [0, 11])

    def test_order_of_the_refusals(self):
        self.assertEqual(last(own(1, 2, 3)), [-1])
        self.assertEqual(last(own(1, 2)), [-2])
        # Not whole, and a team twice.
        self.assertEqual(last(teams(4), own(1, 2, 3, 4), own(1, 1, 2, 3)), [-3])
        self.assertEqual(last(teams(4), own(1, 2, 3, 4), own(1, 2, 3, 4)), [-3])
        self.assertEqual(last(teams(4), own(1, 2, 3, 4), own(1, 2, 3)), [-1])
        # Eleven rounds and the last not whole.
        calls = all_rounds(12)
        self.assertEqual(last(*calls[:-1], own(1, 1)), [-3])
        self.assertEqual(last(*calls, own(1, 1)), [-8])
        self.assertEqual(last(*calls, own(0, 1)), [-1])


if __name__ == "__main__":
    unittest.main()
