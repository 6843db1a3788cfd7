"""Promise 0: teams."""

import unittest

from helper import (
    BIG, ask, check, draw, knock, knock_row, last, left, match, met, own, pair, played, points_of, result, round_of,
    standing, teams, units_of, win,
)


class Teams(unittest.TestCase):
    def test_each_number_of_teams(self):
        for n in range(2, 13):
            places = [number for team in range(1, n + 1) for number in (team, 0, 0, 0)]
            self.assertEqual(ask(teams(n), standing()), [[0], [0, n] + places])

    def test_out_of_range(self):
        for n in (1, 0, -1, -2, 13, 14, BIG, -BIG):
            self.assertEqual(ask(teams(n), standing()), [[-1], [-2]])

    def test_refused_leaves_the_event(self):
        told = ask(teams(4), own(1, 2, 3, 4), teams(1), teams(13), met(3, 4), standing())
        self.assertEqual(told[2:5], [[-1], [-1], [0, 1]])
        self.assertEqual(told[5][:2], [0, 4])

    def test_new_event_has_no_rounds(self):
        old = [teams(4), *played(1, (1, 3, 2, 4), 9), draw(0)]
        told = ask(
            *old, teams(4), standing(), met(1, 3), result(1, 1, 3, 0), match(1, 3, 0, 0),
            pair(0), own(1, 3, 2, 4),
        )
        self.assertEqual(told[len(old):], [
            [0], [0, 4, 1, 0, 0, 0, 2, 0, 0, 0, 3, 0, 0, 0, 4, 0, 0, 0], [0, 0], [-5], [-5],
            [0, 0, 2, 1, 2, 3, 4], [0, 1],
        ])

    def test_new_event_forgets_who_sat_out(self):
        old = [teams(3), own(1, 2)]
        self.assertEqual(last(*old, teams(3), standing()), [0, 3, 1, 0, 0, 0, 2, 0, 0, 0, 3, 0, 0, 0])
        self.assertEqual(last(*old, teams(3), pair(0)), [0, 3, 1, 1, 2])

    def test_new_event_has_no_knock_out(self):
        old = [teams(4), knock(4), win(1)]
        self.assertEqual(ask(*old, teams(4), knock_row(), win(2), round_of(1), left())[4:], [[-4], [-4], [-5], [0, 3]])

    def test_refused_leaves_the_knock_out(self):
        old = [teams(4), knock(4), win(1)]
        self.assertEqual(ask(*old, teams(1), knock_row(), win(2))[4:], [[0, 4, 1, 4, 2, 3, 1, 1], [0, 2, 0]])

    def test_new_event_of_another_size(self):
        self.assertEqual(last(teams(12), teams(2), own(1, 3)), [-6])
        self.assertEqual(last(teams(2), teams(4), own(3, 4, 2, 1)), [0, 1])

    def test_no_teams(self):
        calls = (
            pair(0), draw(1), own(), own(1, 2), match(1, 2, 0, 0), result(1, 1, 2, 0), standing(), met(1, 2),
            left(), check(), check(1, 2), knock(2), knock_row(), win(1), round_of(1),
        )
        for call in calls:
            self.assertEqual(ask(call, teams(2), standing()), [[-2], [0], [0, 2, 1, 0, 0, 0, 2, 0, 0, 0]])

    def test_range_ahead_of_no_teams(self):
        calls = (
            pair(2), draw(-1), own(1), own(1, 13), match(0, 1, 0, 0), match(1, 2), result(0, 1, 2, 0),
            result(1, 1, 2, 769), met(1, 13), check(1), check(1, 13), knock(1), win(13), round_of(12),
        )
        for call in calls:
            self.assertEqual(ask(call, standing()), [[-1], [-2]])

    def test_answered_without_teams(self):
        self.assertEqual(ask(points_of(1), units_of(20), teams(2)), [[0, 12, 8], [0, 1], [0]])


if __name__ == "__main__":
    unittest.main()
