"""The calls points and units."""

import unittest

from helper import BIG, ask, draw, last, match, points_of, standing, teams, units_of

# The least that is apart for 1 unit, for 2 units, and so on.
LIMITS = (
    20, 50, 90, 130, 170, 220, 270, 320, 370, 430, 500, 600,
    750, 900, 1100, 1300, 1500, 1750, 2000, 2250, 2500, 3000, 3500, 4000,
)
# The least units for so many points; 11 are not reached, as 1 unit gives 12 at once.
LEAST_UNITS = {12: 1, 13: 3, 14: 4, 15: 7, 16: 9, 17: 13, 18: 16, 19: 21, 20: 25}


class Points(unittest.TestCase):
    def test_even(self):
        self.assertEqual(last(points_of(0)), [0, 10, 10])

    def test_where_the_points_step(self):
        below = 10
        for points, units in LEAST_UNITS.items():
            told = ask(points_of(units - 1), points_of(units))
            self.assertEqual(told, [[0, below, 20 - below], [0, points, 20 - points]])
            told = ask(points_of(1 - units), points_of(-units))
            self.assertEqual(told, [[0, 20 - below, below], [0, 20 - points, points]])
            below = points

    def test_around_squares(self):
        # Four times u is a square for 1, 4, 9, 16, 25 and 36.
        wanted = {
            1: (10, 12, 12), 4: (13, 14, 14), 9: (15, 16, 16), 16: (17, 18, 18), 25: (19, 20, 20), 36: (20, 20, 20),
        }
        for units, points in wanted.items():
            for at in range(3):
                more = units - 1 + at
                self.assertEqual(last(points_of(more)), [0, points[at], 20 - points[at]])
                self.assertEqual(last(points_of(-more)), [0, 20 - points[at], points[at]])

    def test_every_number_of_units(self):
        for units in range(-768, 769):
            more = [m for m in range(11) if m * m <= 4 * abs(units)][-1]
            points = 10 + more if units >= 0 else 10 - more
            self.assertEqual(last(points_of(units)), [0, points, 20 - points])

    def test_out_of_range(self):
        self.assertEqual(ask(points_of(768), points_of(-768)), [[0, 20, 0], [0, 0, 20]])
        for units in (769, -769, 1000, BIG, -BIG):
            self.assertEqual(ask(points_of(units), teams(2), points_of(units)), [[-1], [0], [-1]])

    def test_with_teams(self):
        told = ask(points_of(4), teams(2), points_of(4), draw(0), points_of(4), standing())
        self.assertEqual(told[::2], [[0, 14, 6]] * 3)
        self.assertEqual(told[5], [0, 2, 1, 0, 0, 0, 2, 0, 0, 0])


class Units(unittest.TestCase):
    def test_around_each_limit(self):
        for at, limit in enumerate(LIMITS):
            told = ask(units_of(limit - 1), units_of(limit), units_of(limit + 1))
            self.assertEqual(told, [[0, at], [0, at + 1], [0, at + 1]])
            told = ask(units_of(1 - limit), units_of(-limit), units_of(-limit - 1))
            self.assertEqual(told, [[0, -at], [0, -at - 1], [0, -at - 1]])

    def test_near_none(self):
        for apart in (0, 1, -1, 19, -19):
            self.assertEqual(last(units_of(apart)), [0, 0])

    def test_far(self):
        for apart in (4000, 4001, 10000, 19999, 20000):
            self.assertEqual(ask(units_of(apart), units_of(-apart)), [[0, 24], [0, -24]])

    def test_out_of_range(self):
        for apart in (20001, -20001, BIG, -BIG):
            self.assertEqual(ask(units_of(apart), teams(2), units_of(apart)), [[-1], [0], [-1]])

    def test_as_a_board_of_a_match(self):
        for apart in (0, 19, 20, -333, 4000, -20000, 20000):
            scores = (apart // 2, apart // 2 - apart)
            told = ask(teams(2), units_of(apart), draw(0), units_of(apart), match(1, 2, *scores))
            self.assertEqual(told[1], told[3])
            self.assertEqual(told[1][1], told[4][1])


if __name__ == "__main__":
    unittest.main()
