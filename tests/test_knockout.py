"""Promises 12, 13 and 14: knock, row and win."""

import unittest

from helper import (
    BIG, all_rounds, ask, draw, knock, knock_row, last, left, match, own, pair, played, result, standing, teams, win,
)

# By the number of teams: the row that the seeds give, where the x-th seed is x.
ROWS = {
    2: [1, 2],
    3: [1, 0, 2, 3],
    4: [1, 4, 2, 3],
    5: [1, 0, 4, 5, 2, 0, 3, 0],
    6: [1, 0, 4, 5, 2, 0, 3, 6],
    7: [1, 0, 4, 5, 2, 7, 3, 6],
    8: [1, 8, 4, 5, 2, 7, 3, 6],
    9: [1, 0, 8, 9, 4, 0, 5, 0, 2, 0, 7, 0, 3, 0, 6, 0],
    10: [1, 0, 8, 9, 4, 0, 5, 0, 2, 0, 7, 10, 3, 0, 6, 0],
    11: [1, 0, 8, 9, 4, 0, 5, 0, 2, 0, 7, 10, 3, 0, 6, 11],
    12: [1, 0, 8, 9, 4, 0, 5, 12, 2, 0, 7, 10, 3, 0, 6, 11],
}
# The standing is 4 2 5 3 1 with 20 18 12 2 0 points; 5 sits out.
FIVE = [teams(5), own(1, 4, 2, 3), result(1, 4, 1, 25), result(1, 2, 3, 16)]
# The row is 1 4 2 3.
FOUR = [teams(4), knock(4)]
# The row is 1 0 4 5 2 0 3 6.
SIX = [teams(6), knock(6)]


def row_of(places, won=()):
    """The answer to row."""
    return [0, len(places), *places, len(won), *won]


class Knock(unittest.TestCase):
    def test_each_number_of_teams(self):
        for k, row in ROWS.items():
            for n in {k, 12}:
                self.assertEqual(ask(teams(n), knock(k), knock_row())[1:], [[0, len(row)], row_of(row)])

    def test_by_the_standing(self):
        self.assertEqual(last(*FIVE, standing())[2::4], [4, 2, 5, 3, 1])
        for k, row in ((2, [4, 2]), (3, [4, 0, 2, 5]), (4, [4, 3, 2, 5]), (5, [4, 0, 3, 1, 2, 0, 5, 0])):
            self.assertEqual(ask(*FIVE, knock(k), knock_row())[-2:], [[0, len(row)], row_of(row)])

    def test_by_the_standing_of_twelve(self):
        # In the first round the higher numbers win, and by more: the standing is 12 11 .. 1.
        calls = [teams(12), own(*[team for one in range(1, 7) for team in (one, 13 - one)])]
        calls += [result(1, 13 - one, one, 30 - one) for one in range(1, 7)]
        self.assertEqual(last(*calls, standing())[2::4], list(range(12, 0, -1)))
        for k, row in ROWS.items():
            self.assertEqual(last(*calls, knock(k), knock_row()), row_of([13 - seed if seed else 0 for seed in row]))

    def test_results_told_later(self):
        told = ask(
            *FIVE, knock(4), knock_row(), result(1, 3, 2, 768), match(1, 4, 4000, 0), knock_row(), standing(),
            knock(4), knock_row(),
        )
        self.assertEqual(told[-7], row_of([4, 3, 2, 5]))
        self.assertEqual(told[-4], told[-7])
        self.assertEqual(told[-3][2::4], [3, 1, 5, 4, 2])
        self.assertEqual(told[-1], row_of([3, 4, 1, 5]))

    def test_rounds_drawn_later(self):
        calls = [*FIVE, knock(4), win(3)]
        told = ask(*calls, knock_row(), draw(0), result(2, 4, 2, 9), own(1, 2, 3, 4), knock_row())
        self.assertEqual(told[-5], row_of([4, 3, 2, 5], [3]))
        self.assertEqual(told[-1], told[-5])

    def test_last_round_not_whole(self):
        calls = [teams(4), own(1, 2, 3, 4), result(1, 4, 3, 1)]
        self.assertEqual(last(*calls, standing())[2::4], [4, 3, 1, 2])
        self.assertEqual(ask(*calls, pair(0), knock(4), knock_row())[-3:], [[-3], [0, 4], row_of([4, 2, 3, 1])])

    def test_eleven_rounds(self):
        self.assertEqual(last(*all_rounds(12), knock(3)), [0, 4])

    def test_in_place_of_the_one_before(self):
        self.assertEqual(ask(*FOUR, knock(3), knock_row())[2:], [[0, 4], row_of([1, 0, 2, 3])])
        # One that has begun, one in its second row, one that is over.
        for wins in ([win(4)], [win(4), win(2)], [win(4), win(2), win(4)]):
            self.assertEqual(ask(*FOUR, *wins, knock(2), knock_row())[-2:], [[0, 2], row_of([1, 2])])
            self.assertEqual(ask(*FOUR, *wins, knock(4), knock_row())[-2:], [[0, 4], row_of([1, 4, 2, 3])])

    def test_fewer_teams(self):
        for n in range(2, 12):
            self.assertEqual(ask(teams(n), knock(n + 1), knock(12), knock_row(), knock(n))[1:4], [[-5], [-5], [-4]])
            self.assertEqual(last(teams(n), knock(n + 1), knock(n)), [0, len(ROWS[n])])

    def test_out_of_range(self):
        for k in (1, 0, -1, -2, 13, 16, BIG, -BIG):
            self.assertEqual(ask(teams(12), knock(k), knock_row())[1:], [[-1], [-4]])

    def test_refused_leaves_the_one_before(self):
        told = ask(*FOUR, win(3), knock(5), knock(12), knock(1), knock(13), knock_row(), win(1), knock_row())
        self.assertEqual(told[3:], [[-5], [-5], [-1], [-1], row_of([1, 4, 2, 3], [3]), [0, 2, 0], row_of([1, 3])])

    def test_leaves_the_rounds(self):
        calls = [teams(5), *played(1, (1, 2, 3, 4), 9)]
        asked = [standing(), left(), pair(1)]
        self.assertEqual(ask(*calls, knock(4), win(1), *asked)[-3:], ask(*calls, *asked)[-3:])

    def test_order_of_the_refusals(self):
        self.assertEqual(last(knock(13)), [-1])
        self.assertEqual(last(knock(2)), [-2])
        self.assertEqual(last(teams(2), knock(13)), [-1])


class Row(unittest.TestCase):
    def test_no_knock_out(self):
        self.assertEqual(ask(teams(4), knock_row(), draw(0), knock_row())[1::2], [[-4], [-4]])

    def test_new_teams(self):
        for wins in ([], [win(4)], [win(4), win(2), win(4)]):
            told = ask(*FOUR, *wins, teams(4), knock_row(), win(1), knock(2), knock_row())
            self.assertEqual(told[-4:], [[-4], [-4], [0, 2], row_of([1, 2])])

    def test_refused_teams_leave_it(self):
        self.assertEqual(last(*FOUR, win(2), teams(13), teams(1), knock_row()), row_of([1, 4, 2, 3], [2]))

    def test_order_of_the_wins(self):
        calls = [teams(8), knock(8)]
        told = ask(*calls, win(6), knock_row(), win(1), knock_row(), win(5), knock_row())
        row = ROWS[8]
        self.assertEqual(told[3::2], [row_of(row, [6]), row_of(row, [6, 1]), row_of(row, [6, 1, 5])])

    def test_down_to_one_place(self):
        told = ask(
            teams(8), knock(8), win(3), win(8), win(2), win(4), knock_row(), win(3), knock_row(), win(4), knock_row(),
            win(4), knock_row(),
        )
        self.assertEqual(told[6::2], [
            row_of([8, 4, 2, 3]), row_of([8, 4, 2, 3], [3]), row_of([4, 3]), row_of([4]),
        ])

    def test_empty_places(self):
        # Nobody has won against an empty place; who stands there goes on.
        told = ask(*SIX, knock_row(), win(5), knock_row(), win(3), knock_row())
        row = [1, 0, 4, 5, 2, 0, 3, 6]
        self.assertEqual(told[2::2], [row_of(row), row_of(row, [5]), row_of([1, 5, 2, 3])])
        self.assertEqual(ask(teams(3), knock(3), win(3), knock_row())[2:], [[0, 2, 0], row_of([1, 3])])

    def test_sixteen_places(self):
        calls = [teams(12), knock(12), win(11), win(9), win(10), win(5)]
        self.assertEqual(last(*calls, knock_row()), row_of([1, 9, 4, 5, 2, 10, 3, 11]))
        self.assertEqual(last(*calls[:-1], knock_row()), row_of(ROWS[12], [11, 9, 10]))

    def test_one_match_before_a_row_of_eight(self):
        self.assertEqual(last(teams(9), knock(9), win(8), knock_row()), row_of([1, 8, 4, 5, 2, 7, 3, 6]))

    def test_nothing_is_changed(self):
        told = ask(*FOUR, win(4), knock_row(), knock_row(), win(3), knock_row(), knock_row())
        self.assertEqual([told[3], told[6]], [told[4], told[7]])

    def test_no_teams(self):
        self.assertEqual(ask(knock_row(), teams(2), knock_row()), [[-2], [0], [-4]])


class Win(unittest.TestCase):
    def test_either_team_of_a_match(self):
        for first in (1, 4):
            for second in (2, 3):
                told = ask(*FOUR, win(first), win(second), knock_row())
                self.assertEqual(told[2:], [[0, 4, 0], [0, 2, 0], row_of([first, second])])
                told = ask(*FOUR, win(second), win(first), knock_row())
                self.assertEqual(told[2:], [[0, 4, 0], [0, 2, 0], row_of([first, second])])

    def test_last_match(self):
        for team in (1, 2):
            self.assertEqual(ask(teams(2), knock(2), win(team), knock_row())[2:], [[0, 1, team], row_of([team])])

    def test_whole_knock_out_of_twelve(self):
        wins = (8, 12, 10, 11, 1, 12, 2, 3, 12, 3, 3)
        told = ask(teams(12), knock(12), *[win(team) for team in wins])
        self.assertEqual(told[2:], [
            [0, 16, 0], [0, 16, 0], [0, 16, 0], [0, 8, 0], [0, 8, 0], [0, 8, 0], [0, 8, 0], [0, 4, 0],
            [0, 4, 0], [0, 2, 0], [0, 1, 3],
        ])

    def test_decided_already(self):
        row = row_of([1, 4, 2, 3], [4])
        for team in (1, 4):
            self.assertEqual(ask(*FOUR, win(4), win(team), knock_row())[3:], [[-5], row])

    def test_against_an_empty_place(self):
        for team in (1, 2):
            told = ask(*SIX, win(team), knock_row(), win(3), win(team), win(4), win(team))
            self.assertEqual(told[2:], [
                [-5], row_of([1, 0, 4, 5, 2, 0, 3, 6]), [0, 8, 0], [-5], [0, 4, 0], [0, 4, 0],
            ])

    def test_not_in_the_row(self):
        # 5 plays no knock-out, there's no 12, 1 and 2 are out.
        calls = [teams(5), knock(4)]
        self.assertEqual(ask(*calls, win(5), win(12), knock_row())[2:], [[-5], [-5], row_of([1, 4, 2, 3])])
        calls += [win(4), win(3)]
        self.assertEqual(ask(*calls, win(1), win(2), knock_row())[4:], [[-5], [-5], row_of([4, 3])])

    def test_row_of_one_place(self):
        calls = [teams(2), knock(2), win(2)]
        self.assertEqual(ask(*calls, win(2), win(1), knock_row())[3:], [[-5], [-5], row_of([2])])

    def test_wins_again_in_the_new_row(self):
        told = ask(*FOUR, win(1), win(2), win(1), knock_row())
        self.assertEqual(told[4:], [[0, 1, 1], row_of([1])])

    def test_no_knock_out(self):
        for team in (1, 4, 12):
            self.assertEqual(last(teams(4), win(team)), [-4])
        self.assertEqual(ask(teams(4), knock(5), win(1))[1:], [[-5], [-4]])

    def test_out_of_range(self):
        for team in (0, -1, 13, BIG, -BIG):
            self.assertEqual(ask(*SIX, win(team), knock_row())[2:], [[-1], row_of([1, 0, 4, 5, 2, 0, 3, 6])])

    def test_order_of_the_refusals(self):
        self.assertEqual(last(win(13)), [-1])
        self.assertEqual(last(win(1)), [-2])
        self.assertEqual(last(teams(2), win(13)), [-1])
        self.assertEqual(last(teams(2), win(3)), [-4])


if __name__ == "__main__":
    unittest.main()
