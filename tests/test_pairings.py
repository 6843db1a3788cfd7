"""Promises 1 and 2: pair and draw."""

import random
import unittest

from helper import (
    BIG, TWO_THREES, UNLIKE_EVEN, UNLIKE_ODD, all_rounds, ask, circle, draw, last, match, met, own, pair, played,
    result, standing, teams,
)

# 9 has not sat out, but 1 to 8 have no pairing left; nor have 1 and 2 sat out.
NO_PAIRING_WITHOUT_9 = [
    teams(9),
    *played(1, (2, 3, 9, 6, 8, 1, 4, 7)),
    *played(2, (4, 9, 1, 3, 5, 2, 8, 7)),
    *played(3, (4, 1, 2, 6, 5, 8, 9, 3)),
    *played(4, (5, 9, 3, 7, 1, 6, 8, 2)),
    *played(5, (8, 9, 7, 6, 2, 1, 4, 5)),
    *played(6, (7, 9, 5, 1, 3, 6, 4, 2)),
]


def pairings(row):
    """Every pairing of these teams."""
    if not row:
        return [[]]
    found = []
    for at in range(1, len(row)):
        for rest in pairings(row[1:at] + row[at + 1:]):
            found.append([(row[0], row[at])] + rest)
    return found


def by_the_words(places, past, mode):
    """The answer to pair, from the standing and the rounds so far, by looking at every pairing."""
    order = [place[0] for place in places]
    points = {place[0]: place[1] for place in places}
    have_met = {frozenset(two) for twos in past for two in twos}
    outs = [0] if len(order) % 2 == 0 else [place[0] for place in reversed(places) if place[3] == 0]
    for out in outs:
        possible = [
            twos for twos in pairings([team for team in order if team != out])
            if not any(frozenset(two) in have_met for two in twos)
        ]
        if possible:
            def rank(twos):
                cost = sum((points[a] - points[b]) ** 2 for a, b in twos)
                return cost if mode == 1 else 0, [order.index(b) for a, b in twos]
            best = min(possible, key=rank)
            return [0, out, len(best)] + [team for two in best for team in two]
    return [-7]


class Pair(unittest.TestCase):
    def test_first_round(self):
        for mode in (0, 1):
            self.assertEqual(last(teams(2), pair(mode)), [0, 0, 1, 1, 2])
            self.assertEqual(last(teams(3), pair(mode)), [0, 3, 1, 1, 2])
            self.assertEqual(last(teams(6), pair(mode)), [0, 0, 3, 1, 2, 3, 4, 5, 6])
            self.assertEqual(last(teams(7), pair(mode)), [0, 7, 3, 1, 2, 3, 4, 5, 6])
            self.assertEqual(last(teams(12), pair(mode)), [0, 0, 6] + list(range(1, 13)))

    def test_by_the_standing(self):
        # The standing is 4 1 3 2: 20, 19, 1 and 0 points.
        calls = [teams(4), own(4, 2, 1, 3), result(1, 4, 2, 25), result(1, 1, 3, 21)]
        self.assertEqual(last(*calls, pair(0)), [0, 0, 2, 4, 1, 3, 2])
        # 3 1 2 4 after a correction; 3 and 1 have met.
        calls.append(result(1, 3, 1, 30))
        calls.append(result(1, 2, 4, 0))
        self.assertEqual(last(*calls, pair(0)), [0, 0, 2, 3, 2, 4, 1])

    def test_unlike_modes_even(self):
        self.assertEqual(last(*UNLIKE_EVEN, pair(0)), [0, 0, 3, 5, 1, 2, 6, 3, 4])
        self.assertEqual(last(*UNLIKE_EVEN, pair(1)), [0, 0, 3, 5, 2, 1, 3, 4, 6])

    def test_unlike_modes_odd(self):
        self.assertEqual(last(*UNLIKE_ODD, pair(0)), [0, 6, 3, 3, 5, 1, 4, 2, 7])
        self.assertEqual(last(*UNLIKE_ODD, pair(1)), [0, 6, 3, 3, 1, 5, 2, 4, 7])

    def test_last_who_has_not_sat_out(self):
        # 3 sat out and is second with 12 points; 2 is last, then 1 is left alone.
        calls = [teams(3), own(1, 2), result(1, 1, 2, 4)]
        self.assertEqual(last(*calls, pair(0)), [0, 2, 1, 1, 3])
        # 3 is last and 2 before it, but both have sat out: the leader does now.
        calls = [teams(3), own(1, 2), result(1, 1, 2, 9), own(1, 3), result(2, 1, 3, 25)]
        self.assertEqual(last(*calls, pair(1)), [0, 1, 1, 2, 3])

    def test_who_sits_out_leaves_a_pairing(self):
        self.assertEqual(last(*NO_PAIRING_WITHOUT_9, standing())[-4:], [9, 60, 0, 0])
        for mode in (0, 1):
            self.assertEqual(last(*NO_PAIRING_WITHOUT_9, pair(mode)), [0, 2, 4, 3, 4, 5, 7, 6, 8, 1, 9])

    def test_the_last_sat_out_before(self):
        calls = [*NO_PAIRING_WITHOUT_9, result(6, 7, 9, -100)]
        self.assertEqual(last(*calls, standing())[-4:], [7, 52, -100, 1])
        self.assertEqual(last(*calls, pair(0)), [0, 2, 4, 9, 1, 3, 4, 5, 7, 6, 8])

    def test_nothing_is_changed(self):
        told = ask(teams(3), pair(0), pair(1), standing(), met(1, 2), match(1, 2, 0, 0), pair(0), draw(0))
        self.assertEqual(told[1:], [
            [0, 3, 1, 1, 2], [0, 3, 1, 1, 2], [0, 3, 1, 0, 0, 0, 2, 0, 0, 0, 3, 0, 0, 0], [0, 0], [-5],
            [0, 3, 1, 1, 2], [0, 1],
        ])

    def test_mode_out_of_range(self):
        for mode in (-1, 2, BIG, -BIG):
            self.assertEqual(last(teams(4), pair(mode)), [-1])

    def test_not_whole(self):
        calls = [teams(4), own(1, 2, 3, 4)]
        self.assertEqual(last(*calls, pair(0)), [-3])
        self.assertEqual(last(*calls, result(1, 1, 2, 0), pair(0)), [-3])
        self.assertEqual(last(*calls, result(1, 3, 4, 0), pair(1)), [-3])
        self.assertEqual(last(*calls, result(1, 3, 4, 0), result(1, 1, 2, 0), pair(1)), [0, 0, 2, 1, 3, 2, 4])

    def test_no_pairing(self):
        self.assertEqual(last(teams(2), own(1, 2), match(1, 2, 0, 0), pair(0)), [-7])
        for mode in (0, 1):
            self.assertEqual(last(*all_rounds(3), pair(mode)), [-7])
            self.assertEqual(last(*all_rounds(4), pair(mode)), [-7])
            self.assertEqual(last(*TWO_THREES, pair(mode)), [-7])

    def test_no_pairing_though_some_have_not_sat_out(self):
        calls = [teams(5), *played(1, (1, 5, 3, 4)), *played(2, (2, 4, 3, 5)), *played(3, (1, 4, 2, 5))]
        self.assertEqual([place for place in last(*calls, standing())[5::4]], [1, 1, 1, 0, 0])
        self.assertEqual(last(*calls, pair(0)), [-7])

    def test_no_pairing_when_full(self):
        self.assertEqual(last(*all_rounds(12), pair(0)), [-7])
        self.assertEqual(last(*all_rounds(11), pair(0)), [-7])

    def test_order_of_the_refusals(self):
        self.assertEqual(last(pair(2)), [-1])
        self.assertEqual(last(pair(0)), [-2])
        self.assertEqual(last(teams(2), own(1, 2), pair(2)), [-1])
        # Not whole, and no pairing would be left.
        self.assertEqual(last(teams(2), own(1, 2), pair(0)), [-3])

    def test_against_every_pairing(self):
        chance = random.Random(1)
        for n in (4, 5, 6, 7, 8, 9):
            for turn in range(6):
                self.compare_one_event(n, chance)

    def compare_one_event(self, n, chance):
        calls = [teams(n)]
        past = []
        while len(past) < n:
            table, first, fairest = ask(*calls, standing(), pair(0), pair(1))[-3:]
            places = [table[at:at + 4] for at in range(2, len(table), 4)]
            self.assertEqual(first, by_the_words(places, past, 0))
            self.assertEqual(fairest, by_the_words(places, past, 1))
            chosen = chance.choice((first, fairest))
            if chosen == [-7]:
                return
            row = chosen[3:]
            past.append(list(zip(row[::2], row[1::2])))
            calls.append(own(*row))
            for a, b in past[-1]:
                calls.append(result(len(past), a, b, chance.randint(-30, 30)))


class Draw(unittest.TestCase):
    def test_makes_the_round(self):
        told = ask(teams(5), draw(0), met(1, 2), met(4, 3), met(1, 3), standing())
        self.assertEqual(told[1:], [
            [0, 1], [0, 1], [0, 1], [0, 0],
            [0, 5, 5, 12, 0, 1, 1, 0, 0, 0, 2, 0, 0, 0, 3, 0, 0, 0, 4, 0, 0, 0],
        ])

    def test_has_no_results(self):
        self.assertEqual(last(teams(4), draw(0), draw(0)), [-3])
        self.assertEqual(last(teams(4), draw(1), standing()), last(teams(4), standing()))

    def test_draws_what_pair_tells(self):
        for calls, n in ((UNLIKE_EVEN, 6), (UNLIKE_ODD, 7), (NO_PAIRING_WITHOUT_9, 9)):
            for mode in (0, 1):
                pairing = last(*calls, pair(mode))
                told = ask(*calls, draw(mode), *[met(a, b) for a, b in zip(pairing[3::2], pairing[4::2])])
                number = told[len(calls)][1]
                self.assertEqual(told[len(calls):], [[0, number]] * (1 + n // 2))

    def test_unlike_modes(self):
        number = 3
        self.assertEqual(ask(*UNLIKE_EVEN, draw(0), met(5, 1), met(5, 2))[-3:], [[0, number], [0, number], [0, 0]])
        self.assertEqual(ask(*UNLIKE_EVEN, draw(1), met(5, 1), met(5, 2))[-3:], [[0, number], [0, 0], [0, number]])

    def test_number_of_the_round(self):
        calls = [teams(4)]
        for number, row in enumerate(((1, 2, 3, 4), (1, 3, 2, 4), (1, 4, 2, 3)), start=1):
            told = ask(*calls, draw(0))
            self.assertEqual(told[-1], [0, number])
            calls += [draw(0)] + [result(number, row[at], row[at + 1], 0) for at in (0, 2)]
        self.assertEqual(last(*calls, draw(0)), [-7])

    def test_who_sits_out_is_kept(self):
        calls = [*NO_PAIRING_WITHOUT_9, draw(0), standing()]
        # 60 points and 12: 2 leads from here.
        self.assertEqual(last(*calls)[2:6], [2, 72, 0, 1])

    def test_nobody_meets_twice_or_sits_out_twice(self):
        for n in (11, 12):
            calls = [teams(n)]
            have_met = set()
            outs = []
            for number in range(1, 6):
                pairing = last(*calls, pair(number % 2))
                twos = list(zip(pairing[3::2], pairing[4::2]))
                self.assertEqual(pairing[2], n // 2)
                self.assertEqual(sorted([team for two in twos for team in two] + [pairing[1]] * (n % 2)),
                                 list(range(1, n + 1)))
                for two in twos:
                    self.assertNotIn(frozenset(two), have_met)
                    have_met.add(frozenset(two))
                outs.append(pairing[1])
                calls.append(draw(number % 2))
                calls += [result(number, a, b, a - b) for a, b in twos]
            self.assertEqual(len(set(outs)), 5 if n == 11 else 1)

    def test_mode_out_of_range(self):
        for mode in (-1, 2, BIG, -BIG):
            self.assertEqual(ask(teams(4), draw(mode), met(1, 2)), [[0], [-1], [0, 0]])

    def test_not_whole(self):
        calls = [teams(4), own(1, 2, 3, 4), result(1, 1, 2, 0)]
        self.assertEqual(ask(*calls, draw(0), met(1, 3))[-2:], [[-3], [0, 0]])
        self.assertEqual(last(*calls, draw(0), result(1, 3, 4, 0), draw(0)), [0, 2])

    def test_no_pairing(self):
        self.assertEqual(last(*all_rounds(2), draw(0)), [-7])
        self.assertEqual(last(*all_rounds(3), draw(1)), [-7])
        self.assertEqual(ask(*TWO_THREES, draw(0), met(1, 2))[-2:], [[-7], [0, 0]])

    def test_full(self):
        for n in (11, 12):
            calls = all_rounds(n)
            # What would be left is no pairing, too: full is looked at first.
            self.assertEqual(ask(*calls, draw(0), pair(0))[-2:], [[-8], [-7]])

    def test_ten_rounds_are_not_full(self):
        calls = all_rounds(12)[:-7]
        self.assertEqual(last(*calls, draw(0)), [0, 11])
        row = circle(12)[-1]
        self.assertEqual(last(*calls, draw(0), met(row[0], row[1])), [0, 11])

    def test_order_of_the_refusals(self):
        self.assertEqual(last(draw(2)), [-1])
        self.assertEqual(last(draw(0)), [-2])
        # Eleven rounds, the last not whole.
        calls = all_rounds(12)[:-1]
        self.assertEqual(last(*calls, draw(0)), [-3])
        self.assertEqual(last(*calls, draw(2)), [-1])
        self.assertEqual(last(teams(2), own(1, 2), draw(0)), [-3])


if __name__ == "__main__":
    unittest.main()
