"""How a line of calls is gone through, whatever is answered to each."""

import unittest

from helper import (
    ask, check, draw, knock, knock_row, left, match, met, own, pair, points_of, result, round_of, standing, teams,
    units_of, win,
)
from teamrounds.event import answers

# Calls that leave the rounds as they are, once as they may be and once out of their range.
OTHER_CALLS = (
    left(), check(), check(1, 2, 3, 4), check(7, 7, 7), check(*[6] * 30), points_of(0), points_of(769), units_of(6),
    units_of(-20001), knock(2), knock(13), knock_row(), win(1), win(0), round_of(1), round_of(12),
)



class Walk(unittest.TestCase):
    def test_the_whole_list(self):
        line = teams(2) + own(1, 2) + match(2, 1, 50, 0) + standing() + met(1, 2) + draw(0)
        told = [1, 0, 2, 0, 1, 4, 0, 2, 12, 8, 10, 0, 2, 2, 12, 2, 0, 1, 8, -2, 0, 2, 0, 1, 1, -7]
        self.assertEqual(answers(line), told)

    def test_a_single_call(self):
        self.assertEqual(answers([0, 2]), [1, 0])
        self.assertEqual(answers([6]), [1, -2])

    def test_handed_in_is_not_changed(self):
        line = teams(4) + pair(1) + own(4, 3, 2, 1) + match(1, 2, 50, 0, 0, 3) + own(1, 1, 1) + result(1, 4, 3, 9)
        before = list(line)
        answers(line)
        self.assertEqual(line, before)

    def test_the_same_again(self):
        line = teams(5) + draw(0) + standing() + match(1, 2, 600, 0) + pair(0) + met(1, 2) + left() + knock(5) + win(4)
        line += win(5) + knock_row() + round_of(1) + check(1, 4, 2, 3)
        first = answers(line)
        self.assertEqual(answers(line), first)
        self.assertEqual(answers(standing()), [1, -2])
        self.assertEqual(answers(teams(5) + knock_row() + round_of(1)), [1, 0, 1, -4, 1, -5])
        self.assertEqual(answers(list(line)), first)

    def test_row_of_a_refused_call(self):
        rows = ([6] * 30, [0] * 29, [6], [6, 6], [0, 2])
        for row in rows:
            # -2, -1 or -6: the numbers of the row are no calls.
            told = ask(own(*row), teams(4), own(*row), met(1, 2))
            self.assertEqual([told[1], told[3]], [[0], [0, 0]])
            self.assertLess(told[2][0], 0)
        for row in ([6] * 100, [6] * 65, [0], [0, 2], []):
            told = ask(match(1, 2, *row), teams(4), match(1, 2, *row), met(1, 2))
            self.assertEqual([told[1], told[3]], [[0], [0, 0]])
            self.assertLess(told[2][0], 0)

    def test_numbers_of_a_refused_call(self):
        told = ask(result(0, 0, 2, 6), met(6, 0), pair(6), draw(6), teams(0), teams(2), standing())
        self.assertEqual(told, [[-1]] * 5 + [[0], [0, 2, 1, 0, 0, 0, 2, 0, 0, 0]])

    def test_length_of_the_other_calls(self):
        for call in OTHER_CALLS:
            told = ask(teams(4), own(1, 2, 3, 4), call, standing(), call, met(3, 4))
            self.assertEqual(told[:2] + [told[3], told[5]], ask(teams(4), own(1, 2, 3, 4), standing(), met(3, 4)))

    def test_two_hundred_calls(self):
        told = ask(teams(12), *[match(1, 2, *([0] * 64))] * 199)
        self.assertEqual(told, [[0]] + [[-5]] * 199)
        told = ask(teams(12), own(*range(1, 13)), *[standing()] * 198)
        self.assertEqual(told[2:], [told[2]] * 198)
        told = ask(teams(12), *[knock(12), win(9)] * 99, knock_row())
        self.assertEqual(told[1:-1], [[0, 16], [0, 16, 0]] * 99)

    def test_whole_numbers_alone(self):
        calls = [
            teams(5), draw(0), match(1, 2, 50, 0), standing(), met(1, 2), left(), check(1, 3, 2, 5), check(1, 2),
            points_of(0), units_of(0), knock(5), win(4), knock_row(), round_of(1), result(1, 3, 4, 0), pair(1),
            own(1, 3, 2, 5), own(1, 2), win(1),
        ]
        told = answers([number for call in calls for number in call])
        self.assertIs(type(told), list)
        self.assertEqual({type(number) for number in told}, {int})


if __name__ == "__main__":
    unittest.main()
