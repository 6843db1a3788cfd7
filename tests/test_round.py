"""Promise 15: round."""

import unittest

from helper import (
    BIG, UNLIKE_EVEN, all_rounds, ask, circle, draw, knock, last, match, own, pair, played, result, round_of, standing,
    teams,
)


class Round(unittest.TestCase):
    def test_without_results(self):
        self.assertEqual(last(teams(2), draw(0), round_of(1)), [0, 0, 1, 1, 2, 0, 0])
        self.assertEqual(last(teams(4), draw(0), round_of(1)), [0, 0, 2, 1, 2, 0, 0, 3, 4, 0, 0])
        self.assertEqual(last(teams(3), draw(0), round_of(1)), [0, 3, 1, 1, 2, 0, 0])

    def test_with_results(self):
        calls = [teams(4), draw(0), result(1, 1, 2, 7)]
        self.assertEqual(last(*calls, round_of(1)), [0, 0, 2, 1, 2, 1, 7, 3, 4, 0, 0])
        calls.append(result(1, 3, 4, -768))
        self.assertEqual(last(*calls, round_of(1)), [0, 0, 2, 1, 2, 1, 7, 3, 4, 1, -768])

    def test_result_of_no_units(self):
        self.assertEqual(last(teams(2), draw(0), match(2, 1, 0, 0), round_of(1)), [0, 0, 1, 1, 2, 1, 0])
        self.assertEqual(last(teams(2), draw(0), result(1, 2, 1, 0), round_of(1)), [0, 0, 1, 1, 2, 1, 0])

    def test_as_the_first_team_sees_them(self):
        calls = [teams(2), own(2, 1)]
        for call, units in (
            (result(1, 2, 1, 9), 9), (result(1, 1, 2, 9), -9), (match(2, 1, 90, 0), 3), (match(1, 2, 90, 0), -3),
        ):
            self.assertEqual(last(*calls, call, round_of(1)), [0, 0, 1, 2, 1, 1, units])

    def test_own_as_it_was_told(self):
        calls = [teams(7), own(6, 2, 3, 7, 5, 1), result(1, 7, 3, 5)]
        self.assertEqual(last(*calls, round_of(1)), [0, 4, 3, 6, 2, 0, 0, 3, 7, 1, -5, 5, 1, 0, 0])

    def test_drawn_as_pair_tells_it(self):
        for mode in (0, 1):
            told = ask(*UNLIKE_EVEN, pair(mode), draw(mode), round_of(3))
            pairing = told[-3]
            matches = [number for at in (3, 5, 7) for number in (pairing[at], pairing[at + 1], 0, 0)]
            self.assertEqual(told[-1], pairing[:3] + matches)
        self.assertEqual(last(*UNLIKE_EVEN, draw(1), round_of(3)), [0, 0, 3, 5, 2, 0, 0, 1, 3, 0, 0, 4, 6, 0, 0])

    def test_each_of_several(self):
        for n in (4, 5, 11, 12):
            calls = all_rounds(n)
            for number, row in enumerate(circle(n), start=1):
                out = ([team for team in range(1, n + 1) if team not in row] + [0])[0]
                matches = [told for at in range(0, len(row), 2) for told in (row[at], row[at + 1], 1, 0)]
                self.assertEqual(last(*calls, round_of(number)), [0, out, n // 2] + matches)

    def test_a_correction_is_seen(self):
        calls = [teams(4), *played(1, (1, 2, 3, 4), 1), draw(0)]
        told = ask(*calls, round_of(1), result(1, 2, 1, 25), round_of(1), round_of(2))
        self.assertEqual([told[-4]] + told[-2:], [
            [0, 0, 2, 1, 2, 1, 1, 3, 4, 1, 1], [0, 0, 2, 1, 2, 1, -25, 3, 4, 1, 1],
            [0, 0, 2, 1, 3, 0, 0, 2, 4, 0, 0],
        ])

    def test_no_such_round(self):
        for number in (1, 2, 11):
            self.assertEqual(last(teams(4), round_of(number)), [-5])
        calls = [teams(4), *played(1, (1, 2, 3, 4)), draw(0)]
        self.assertEqual(ask(*calls, round_of(2), round_of(3), round_of(11))[-3:], [
            [0, 0, 2, 1, 3, 0, 0, 2, 4, 0, 0], [-5], [-5],
        ])
        self.assertEqual(last(*calls, teams(4), round_of(1)), [-5])

    def test_refused_rounds_are_not_there(self):
        self.assertEqual(last(teams(4), own(1, 1, 2, 3), round_of(1)), [-5])
        self.assertEqual(last(teams(4), own(1, 2, 3, 4), draw(0), round_of(2)), [-5])

    def test_nothing_is_changed(self):
        calls = [teams(4), own(1, 2, 3, 4), result(1, 1, 2, 4)]
        told = ask(*calls, standing(), round_of(1), round_of(1), standing(), pair(0))
        self.assertEqual([told[3], told[4], told[-1]], [told[6], told[5], [-3]])

    def test_knock_out_is_no_round(self):
        self.assertEqual(last(teams(4), knock(4), round_of(1)), [-5])

    def test_out_of_range(self):
        for number in (0, -1, 12, BIG, -BIG):
            self.assertEqual(last(*all_rounds(12), round_of(number)), [-1])

    def test_order_of_the_refusals(self):
        self.assertEqual(last(round_of(0)), [-1])
        self.assertEqual(last(round_of(1)), [-2])
        self.assertEqual(last(teams(2), round_of(12)), [-1])


if __name__ == "__main__":
    unittest.main()
