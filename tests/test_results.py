"""Promises 4 and 5: match and result, with the units and points that they lean on."""

import unittest

from helper import BIG, ask, draw, last, match, met, own, pair, played, result, standing, teams

LIMITS = (
    20, 50, 90, 130, 170, 220, 270, 320, 370, 430, 500, 600,
    750, 900, 1100, 1300, 1500, 1750, 2000, 2250, 2500, 3000, 3500, 4000,
)
# The points of units 0, 1, 2 ..; from 25 on they are 20.
POINTS = [
    10, 12, 12, 13, 14, 14, 14, 15, 15, 16, 16, 16, 16, 17, 17, 17, 18, 18, 18, 18, 18, 19, 19, 19, 19, 20,
]
ONE = [teams(2), own(1, 2)]
FOUR = [teams(4), own(1, 2, 4, 3)]


class Match(unittest.TestCase):
    def test_each_limit_of_the_table(self):
        for at, limit in enumerate(LIMITS):
            for apart, units in ((limit - 1, at), (limit, at + 1), (limit + 1, at + 1)):
                told = ask(*ONE, match(1, 2, apart, 0), match(1, 2, 0, apart), match(1, 2, -apart, 0))[-3:]
                self.assertEqual([answer[:2] for answer in told], [[0, units], [0, -units], [0, -units]])

    def test_far_and_not_apart(self):
        self.assertEqual(last(*ONE, match(1, 2, 10000, -10000)), [0, 24, 19, 1])
        self.assertEqual(last(*ONE, match(1, 2, -10000, 10000)), [0, -24, 1, 19])
        self.assertEqual(last(*ONE, match(1, 2, 0, 0)), [0, 0, 10, 10])
        self.assertEqual(last(*ONE, match(1, 2, -620, -620)), [0, 0, 10, 10])
        self.assertEqual(last(*ONE, match(1, 2, -600, -620)), [0, 1, 12, 8])

    def test_sum_over_the_boards(self):
        # 7, 0, -1 and -10 units.
        self.assertEqual(last(*ONE, match(1, 2, 300, 0, 10, 0, 0, 49, -200, 230)), [0, -4, 6, 14])
        self.assertEqual(last(*ONE, match(1, 2, 0, 19, 19, 0, 20, 0, 0, 20, 50, 0)), [0, 2, 12, 8])

    def test_most_boards(self):
        self.assertEqual(last(*ONE, match(1, 2, *([10000, 6000] * 32))), [0, 768, 20, 0])
        self.assertEqual(last(*ONE, match(1, 2, *([0, 4000] * 32))), [0, -768, 0, 20])

    def test_either_order(self):
        told = ask(*FOUR, match(1, 2, 90, 0), standing(), match(2, 1, 90, 0), standing(), match(3, 4, 20, 0), standing())
        self.assertEqual(told[2::2], [[0, 3, 13, 7], [0, 3, 13, 7], [0, 1, 12, 8]])
        self.assertEqual(told[3], [0, 4, 1, 13, 3, 0, 2, 7, -3, 0, 3, 0, 0, 0, 4, 0, 0, 0])
        self.assertEqual(told[5], [0, 4, 2, 13, 3, 0, 1, 7, -3, 0, 3, 0, 0, 0, 4, 0, 0, 0])
        self.assertEqual(told[7], [0, 4, 2, 13, 3, 0, 3, 12, 1, 0, 4, 8, -1, 0, 1, 7, -3, 0])

    def test_told_again(self):
        told = ask(*ONE, match(1, 2, 4000, 0), match(1, 2, 50, 0), standing())
        self.assertEqual(told[-1], [0, 2, 1, 12, 2, 0, 2, 8, -2, 0])
        told = ask(*ONE, match(1, 2, 4000, 0), result(1, 2, 1, 4), match(2, 1, 0, 0), standing())
        self.assertEqual(told[-1], [0, 2, 1, 10, 0, 0, 2, 10, 0, 0])

    def test_makes_the_round_whole(self):
        self.assertEqual(last(*FOUR, match(1, 2, 0, 0), pair(0)), [-3])
        self.assertEqual(last(*FOUR, match(1, 2, 0, 0), match(1, 2, 0, 0), pair(0)), [-3])
        self.assertEqual(last(*FOUR, match(1, 2, 0, 0), match(3, 4, 0, 0), pair(0)), [0, 0, 2, 1, 3, 2, 4])

    def test_the_last_round_alone(self):
        calls = [teams(4), *played(1, (1, 2, 3, 4)), own(1, 3, 2, 4)]
        self.assertEqual(last(*calls, match(1, 2, 0, 0)), [-5])
        self.assertEqual(last(*calls, match(3, 1, 0, 0)), [0, 0, 10, 10])

    def test_a_drawn_round(self):
        self.assertEqual(last(teams(5), draw(0), match(4, 3, 1100, 0)), [0, 15, 17, 3])

    def test_no_round(self):
        self.assertEqual(last(teams(2), match(1, 2, 0, 0)), [-5])

    def test_no_such_match(self):
        for a, b in ((1, 3), (4, 1), (1, 1), (4, 4), (5, 6), (1, 12), (12, 12)):
            told = ask(*FOUR, match(a, b, 4000, 0), standing())
            self.assertEqual(told[2], [-5])
            self.assertEqual(told[3], last(*FOUR, standing()))
        # 3 sits out.
        self.assertEqual(last(teams(3), own(1, 2), match(1, 3, 0, 0)), [-5])
        self.assertEqual(last(teams(3), own(1, 2), match(3, 3, 0, 0)), [-5])

    def test_wrong_length_of_scores(self):
        for size in (0, 1, 3, 63, 65, 66, 99, 100):
            self.assertEqual(ask(*ONE, match(1, 2, *([0] * size)), pair(0))[2:], [[-1], [-3]])

    def test_numbers_out_of_range(self):
        for a, b in ((0, 1), (1, 0), (13, 1), (1, 13), (-1, 2), (BIG, 1), (1, -BIG)):
            self.assertEqual(last(*ONE, match(a, b, 0, 0)), [-1])
        for score in (10001, -10001, BIG, -BIG):
            self.assertEqual(ask(*ONE, match(1, 2, score, 0), pair(0))[2:], [[-1], [-3]])
            self.assertEqual(ask(*ONE, match(1, 2, 0, 0, 0, score), pair(0))[2:], [[-1], [-3]])
        self.assertEqual(last(*ONE, match(1, 2, 10000, 10000, -10000, -10000)), [0, 0, 10, 10])

    def test_order_of_the_refusals(self):
        self.assertEqual(last(match(1, 2, 0)), [-1])
        self.assertEqual(last(match(1, 2, 0, 0)), [-2])
        self.assertEqual(last(teams(2), match(1, 1, 0)), [-1])


class Points(unittest.TestCase):
    def test_the_points_of_units(self):
        for units in [*range(0, 30), 36, 100, 767, 768]:
            points = POINTS[units] if units < len(POINTS) else 20
            told = ask(*ONE, result(1, 1, 2, units), result(1, 1, 2, -units), result(1, 2, 1, units))[2:]
            self.assertEqual(told, [[0, points, 20 - points], [0, 20 - points, points], [0, points, 20 - points]])

    def test_four_times_u_a_square(self):
        for units, points in ((0, 10), (1, 12), (4, 14), (9, 16), (16, 18), (25, 20), (36, 20)):
            self.assertEqual(last(*ONE, result(1, 1, 2, units)), [0, points, 20 - points])

    def test_four_times_u_one_less_than_a_square(self):
        for units, points in ((2, 12), (6, 14), (12, 16), (20, 18), (30, 20)):
            self.assertEqual(last(*ONE, result(1, 1, 2, units)), [0, points, 20 - points])
            self.assertEqual(last(*ONE, result(1, 2, 1, -units)), [0, 20 - points, points])

    def test_who_sits_out(self):
        self.assertEqual(
            last(teams(3), own(1, 3), result(1, 1, 3, 1), standing()),
            [0, 3, 1, 12, 1, 0, 2, 12, 0, 1, 3, 8, -1, 0],
        )


class Result(unittest.TestCase):
    def test_last_round(self):
        self.assertEqual(
            ask(*FOUR, result(1, 1, 2, 7), result(1, 3, 4, -7), standing())[2:],
            [[0, 15, 5], [0, 5, 15], [0, 4, 1, 15, 7, 0, 4, 15, 7, 0, 2, 5, -7, 0, 3, 5, -7, 0]],
        )

    def test_either_order(self):
        straight = ask(*FOUR, result(1, 1, 2, 5), standing())[-2:]
        turned = ask(*FOUR, result(1, 2, 1, -5), standing())[-2:]
        self.assertEqual(straight, [[0, 14, 6], [0, 4, 1, 14, 5, 0, 2, 6, -5, 0, 3, 0, 0, 0, 4, 0, 0, 0]])
        self.assertEqual(turned, [[0, 6, 14], straight[1]])

    def test_makes_the_round_whole(self):
        self.assertEqual(last(*FOUR, result(1, 1, 2, 0), pair(0)), [-3])
        self.assertEqual(last(*FOUR, result(1, 1, 2, 0), result(1, 4, 3, 0), pair(0)), [0, 0, 2, 1, 3, 2, 4])

    def test_correction_of_an_earlier_round(self):
        calls = [teams(4), *played(1, (1, 2, 3, 4), 1), draw(0)]
        # The standing was 1 3 2 4, so 1 plays 3 and 2 plays 4; now 2 and 4 lead, and still so.
        told = ask(*calls, result(1, 2, 1, 25), result(1, 3, 4, -16), standing(), met(1, 3), met(2, 4), met(1, 2))
        self.assertEqual(told[4:], [
            [0, 2], [0, 20, 0], [0, 2, 18],
            [0, 4, 2, 20, 25, 0, 4, 18, 16, 0, 3, 2, -16, 0, 1, 0, -25, 0],
            [0, 2], [0, 2], [0, 1],
        ])

    def test_correction_and_the_next_pairing(self):
        calls = [teams(4), *played(1, (1, 2, 3, 4), 1), *played(2, (1, 3, 2, 4), 0)]
        self.assertEqual(last(*calls, pair(0)), [0, 0, 2, 1, 4, 3, 2])
        self.assertEqual(last(*calls, result(1, 2, 1, 9), pair(0)), [0, 0, 2, 2, 3, 4, 1])

    def test_correction_leaves_results_of_later_rounds(self):
        calls = [teams(4), *played(1, (1, 2, 3, 4), 0), *played(2, (1, 3, 2, 4), 9), result(1, 1, 2, -4)]
        self.assertEqual(
            last(*calls, standing()),
            [0, 4, 2, 30, 13, 0, 1, 22, 5, 0, 3, 14, -9, 0, 4, 14, -9, 0],
        )

    def test_correction_while_the_last_round_is_open(self):
        calls = [teams(4), *played(1, (1, 2, 3, 4), 0), own(1, 3, 2, 4)]
        self.assertEqual(ask(*calls, result(1, 4, 3, 3), pair(0), match(1, 3, 0, 0))[-3:], [
            [0, 13, 7], [-3], [0, 0, 10, 10],
        ])

    def test_limits_of_units(self):
        self.assertEqual(last(*ONE, result(1, 1, 2, 768)), [0, 20, 0])
        self.assertEqual(last(*ONE, result(1, 1, 2, -768)), [0, 0, 20])
        self.assertEqual(last(*ONE, result(1, 1, 2, 0)), [0, 10, 10])
        self.assertEqual(last(*ONE, result(1, 1, 2, 768), standing()), [0, 2, 1, 20, 768, 0, 2, 0, -768, 0])
        for units in (769, -769, BIG, -BIG):
            self.assertEqual(ask(*ONE, result(1, 1, 2, units), pair(0))[2:], [[-1], [-3]])

    def test_no_such_round(self):
        self.assertEqual(last(teams(2), result(1, 1, 2, 0)), [-5])
        for number in (2, 3, 11):
            self.assertEqual(ask(*ONE, result(number, 1, 2, 0), pair(0))[2:], [[-5], [-3]])

    def test_no_such_match(self):
        calls = [teams(4), *played(1, (1, 2, 3, 4)), own(1, 3, 2, 4)]
        for number, a, b in ((1, 1, 3), (2, 1, 2), (1, 1, 1), (2, 4, 4), (1, 5, 6), (2, 12, 1)):
            self.assertEqual(ask(*calls, result(number, a, b, 30), standing())[-2:], [[-5], last(*calls, standing())])

    def test_out_of_range(self):
        for number in (0, -1, 12, BIG, -BIG):
            self.assertEqual(last(*ONE, result(number, 1, 2, 0)), [-1])
        for team in (0, -1, 13, BIG, -BIG):
            self.assertEqual(last(*ONE, result(1, team, 2, 0)), [-1])
            self.assertEqual(last(*ONE, result(1, 1, team, 0)), [-1])

    def test_order_of_the_refusals(self):
        self.assertEqual(last(result(0, 1, 2, 0)), [-1])
        self.assertEqual(last(result(1, 1, 2, 0)), [-2])
        self.assertEqual(last(teams(2), result(1, 1, 2, 769)), [-1])


if __name__ == "__main__":
    unittest.main()
