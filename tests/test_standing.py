"""The calls standing and met."""

import unittest

from helper import BIG, ask, draw, last, met, own, pair, played, result, standing, teams


class Standing(unittest.TestCase):
    def test_before_any_round(self):
        self.assertEqual(last(teams(3), standing()), [0, 3, 1, 0, 0, 0, 2, 0, 0, 0, 3, 0, 0, 0])

    def test_points_first(self):
        # 1: 12 points of 2 units; 4: 13 of 3.
        calls = [teams(4), own(1, 2, 3, 4), result(1, 1, 2, 2), result(1, 4, 3, 3)]
        self.assertEqual(last(*calls, standing()), [0, 4, 4, 13, 3, 0, 1, 12, 2, 0, 2, 8, -2, 0, 3, 7, -3, 0])

    def test_more_points_ahead_of_more_units(self):
        # 1 loses by 1 and wins by 768; 2 to 4 share what is left.
        calls = [
            teams(4), own(1, 2, 3, 4), result(1, 1, 2, 768), result(1, 3, 4, 9),
            own(1, 3, 2, 4), result(2, 1, 3, -9), result(2, 2, 4, 0),
        ]
        self.assertEqual(
            last(*calls, standing()),
            [0, 4, 3, 32, 18, 0, 1, 24, 759, 0, 4, 14, -9, 0, 2, 10, -768, 0],
        )

    def test_equal_points_unlike_units(self):
        calls = [teams(4), own(1, 2, 3, 4), result(1, 1, 2, 1), result(1, 3, 4, 2)]
        self.assertEqual(last(*calls, standing()), [0, 4, 3, 12, 2, 0, 1, 12, 1, 0, 2, 8, -1, 0, 4, 8, -2, 0])

    def test_equal_points_and_units(self):
        calls = [teams(4), own(4, 2, 3, 1), result(1, 4, 2, 5), result(1, 3, 1, 5)]
        self.assertEqual(last(*calls, standing()), [0, 4, 3, 14, 5, 0, 4, 14, 5, 0, 1, 6, -5, 0, 2, 6, -5, 0])

    def test_sat_out(self):
        # 12 points and no units for 3, at once; 1 has 12 points and a unit more.
        calls = [teams(3), own(1, 2)]
        self.assertEqual(last(*calls, standing()), [0, 3, 3, 12, 0, 1, 1, 0, 0, 0, 2, 0, 0, 0])
        calls.append(result(1, 1, 2, 1))
        self.assertEqual(last(*calls, standing()), [0, 3, 1, 12, 1, 0, 3, 12, 0, 1, 2, 8, -1, 0])
        calls += played(2, (2, 3), 0)
        self.assertEqual(last(*calls, standing()), [0, 3, 1, 24, 1, 1, 3, 22, 0, 1, 2, 18, -1, 0])

    def test_results_missing(self):
        calls = [teams(4), *played(1, (1, 2, 3, 4), 4), draw(0), result(2, 4, 2, 25)]
        self.assertEqual(last(*calls, standing()), [0, 4, 4, 26, 21, 0, 1, 14, 4, 0, 3, 14, 4, 0, 2, 6, -29, 0])

    def test_sums_over_all_rounds(self):
        calls = [teams(4), *played(1, (1, 2, 3, 4), 1), *played(2, (1, 3, 2, 4), 4), *played(3, (1, 4, 2, 3), 9)]
        self.assertEqual(
            last(*calls, standing()),
            [0, 4, 1, 42, 14, 0, 2, 38, 12, 0, 3, 22, -12, 0, 4, 18, -14, 0],
        )

    def test_changes_nothing(self):
        told = ask(teams(4), standing(), pair(0), standing(), draw(0), standing(), standing())
        self.assertEqual(told[1], told[3])
        self.assertEqual(told[5], told[6])

    def test_no_teams(self):
        self.assertEqual(last(standing()), [-2])


class Met(unittest.TestCase):
    def test_either_order(self):
        calls = [teams(4), own(1, 2, 4, 3)]
        for a, b in ((1, 2), (2, 1), (3, 4), (4, 3)):
            self.assertEqual(last(*calls, met(a, b)), [0, 1])
        for a, b in ((1, 3), (3, 1), (2, 4), (2, 3)):
            self.assertEqual(last(*calls, met(a, b)), [0, 0])

    def test_number_of_the_round(self):
        calls = [teams(4), *played(1, (1, 2, 3, 4)), *played(2, (1, 3, 2, 4)), own(1, 4, 2, 3)]
        for a, b, number in ((1, 2, 1), (4, 3, 1), (3, 1, 2), (2, 4, 2), (4, 1, 3), (3, 2, 3)):
            self.assertEqual(last(*calls, met(a, b)), [0, number])

    def test_before_any_round(self):
        self.assertEqual(last(teams(2), met(1, 2)), [0, 0])

    def test_with_itself(self):
        calls = [teams(3), *played(1, (1, 2)), own(1, 3)]
        for team in (1, 2, 3):
            self.assertEqual(last(*calls, met(team, team)), [0, 0])

    def test_above_n(self):
        calls = [teams(3), own(1, 2)]
        for a, b in ((1, 4), (4, 1), (12, 11), (12, 12)):
            self.assertEqual(last(*calls, met(a, b)), [0, 0])

    def test_who_sat_out(self):
        self.assertEqual(ask(teams(3), own(1, 2), met(3, 1), met(2, 3))[2:], [[0, 0], [0, 0]])

    def test_out_of_range(self):
        for team in (0, -1, 13, BIG, -BIG):
            self.assertEqual(ask(teams(2), met(team, 1), met(1, team))[1:], [[-1], [-1]])
            self.assertEqual(ask(met(team, 1)), [[-1]])

    def test_no_teams(self):
        self.assertEqual(last(met(1, 2)), [-2])


if __name__ == "__main__":
    unittest.main()
