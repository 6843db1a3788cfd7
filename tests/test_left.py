"""Promise 8: left."""

import time
import unittest

from helper import (
    TWO_THREES, UNLIKE_EVEN, UNLIKE_ODD, all_rounds, ask, check, circle, draw, last, left, own, pair, played, result,
    standing, teams,
)

# By the number of teams: how many pairings there are before any round, and after one.
BEFORE = {2: 1, 3: 3, 4: 3, 5: 15, 6: 15, 7: 105, 8: 105, 9: 945, 10: 945, 11: 10395, 12: 10395}
AFTER_ONE = {2: 0, 3: 2, 4: 2, 5: 8, 6: 8, 7: 60, 8: 60, 9: 544, 10: 544, 11: 6040, 12: 6040}


class Left(unittest.TestCase):
    def test_before_any_round(self):
        for n, count in BEFORE.items():
            self.assertEqual(last(teams(n), left()), [0, count])

    def test_after_one_round(self):
        for n, count in AFTER_ONE.items():
            self.assertEqual(last(teams(n), draw(0), left()), [0, count])
            row = [n - at for at in range(n // 2 * 2)]
            self.assertEqual(last(teams(n), *played(1, row, 5), left()), [0, count])

    def test_fewer_after_each_round(self):
        # Of four teams each pairing leaves the others; of three it's the same with one who sits out.
        for n in (3, 4):
            counts = [last(*all_rounds(n)[:end], left())[1] for end in range(1, len(all_rounds(n)) + 1)]
            self.assertEqual(sorted(set(counts)), [0, 1, 2, 3])
            self.assertEqual(counts, sorted(counts, reverse=True))

    def test_told_one_by_one(self):
        # Those that are told with their costs beside these events.
        self.assertEqual(last(*UNLIKE_EVEN, left()), [0, 4])
        # Every pairing without a fault is one of them; 1 and 7 have sat out.
        possible = 0
        for out, twos in every_choice(7):
            if out not in (1, 7):
                row = [team for two in twos for team in two]
                possible += last(*UNLIKE_ODD, check(*row))[1] == 0
        self.assertEqual(last(*UNLIKE_ODD, left()), [0, possible])

    def test_who_sat_out_stays_in(self):
        # After 1-2 with 3 out: 1-3 or 2-3, never again 1-2.
        self.assertEqual(last(teams(3), own(1, 2), left()), [0, 2])
        # After 1-3 too 1 alone may sit out.
        self.assertEqual(last(teams(3), *played(1, (1, 2)), own(1, 3), left()), [0, 1])

    def test_used_up(self):
        for n in range(2, 13):
            self.assertEqual(last(*all_rounds(n), left()), [0, 0])

    def test_one_round_before_the_end(self):
        for n in range(2, 13):
            row = circle(n)[-1]
            calls = all_rounds(n)[:-1 - n // 2]
            self.assertEqual(ask(*calls, left(), own(*row), left())[-3:], [[0, 1], [0, len(circle(n))], [0, 0]])

    def test_none_though_some_have_not_met(self):
        self.assertEqual(last(*TWO_THREES, left()), [0, 0])

    def test_none_though_some_have_not_sat_out(self):
        calls = [teams(5), *played(1, (1, 5, 3, 4)), *played(2, (2, 4, 3, 5)), *played(3, (1, 4, 2, 5))]
        self.assertEqual(last(*calls, standing())[5::4], [1, 1, 1, 0, 0])
        self.assertEqual(last(*calls, left()), [0, 0])

    def test_last_round_not_whole(self):
        calls = [teams(6), draw(0)]
        self.assertEqual(last(*calls, pair(0)), [-3])
        self.assertEqual(last(*calls, left()), [0, 8])
        self.assertEqual(last(*calls, result(1, 1, 2, 40), left()), [0, 8])

    def test_results_do_not_matter(self):
        calls = [teams(7), draw(0), result(1, 1, 2, 40), result(1, 3, 4, -40), result(1, 5, 6, 1)]
        told = ask(*calls, left(), result(1, 1, 2, -9), left())
        self.assertEqual([told[-3], told[-1]], [[0, 60], [0, 60]])

    def test_nothing_is_changed(self):
        calls = [teams(5), draw(0)]
        told = ask(*calls, standing(), left(), left(), standing())
        self.assertEqual(told[2], told[5])
        self.assertEqual(told[3:5], [[0, 8], [0, 8]])

    def test_new_teams(self):
        self.assertEqual(last(*all_rounds(4), teams(4), left()), [0, 3])

    def test_no_teams(self):
        self.assertEqual(ask(left(), teams(2), left()), [[-2], [0], [0, 1]])

    def test_in_good_time(self):
        begin = time.process_time()
        for n in (11, 12):
            self.assertEqual(ask(teams(n), *[left()] * 12)[1:], [[0, 10395]] * 12)
            pairing = [0, n % 2 * n, n // 2, *range(1, n // 2 * 2 + 1)]
            self.assertEqual(ask(teams(n), *[pair(1)] * 12)[1:], [pairing] * 12)
            self.assertEqual(ask(teams(n), draw(1), *[left()] * 11)[2:], [[0, 6040]] * 11)
            # Units that are unlike all over, so that few pairings cost the same.
            row = circle(n)[0]
            calls = [teams(n), own(*row)]
            calls += [result(1, row[at], row[at + 1], at * at + 1) for at in range(0, len(row), 2)]
            told = ask(*calls, *[left(), pair(0), pair(1)] * 4)
            self.assertEqual(told[-3], [0, 6040])
        self.assertLess(time.process_time() - begin, 20)


def every_choice(n):
    """Who sits out of these teams, an odd number of them, and a pairing of the others, in every way."""
    choices = []
    for out in range(1, n + 1):
        choices += [(out, twos) for twos in every_pairing([team for team in range(1, n + 1) if team != out])]
    return choices


def every_pairing(row):
    if not row:
        return [[]]
    return [
        [(row[0], row[at])] + rest
        for at in range(1, len(row)) for rest in every_pairing(row[1:at] + row[at + 1:])
    ]


if __name__ == "__main__":
    unittest.main()
