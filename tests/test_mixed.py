"""Lines that mix all calls, held against a slow and plain way of reckoning the same."""

import functools
import random
import unittest

from helper import BIG, ask, circle

LIMITS = (
    20, 50, 90, 130, 170, 220, 270, 320, 370, 430, 500, 600,
    750, 900, 1100, 1300, 1500, 1750, 2000, 2250, 2500, 3000, 3500, 4000,
)
SEEDS = {
    2: (1, 2), 4: (1, 4, 2, 3), 8: (1, 8, 4, 5, 2, 7, 3, 6),
    16: (1, 16, 8, 9, 4, 13, 5, 12, 2, 15, 7, 10, 3, 14, 6, 11),
}
# By the call: the least and the greatest of its whole numbers; of its row the fewest, the most, least and greatest.
NUMBERS = {
    0: [(2, 12)], 1: [(0, 1)], 2: [(0, 1)], 4: [(1, 12)] * 2, 5: [(1, 11), (1, 12), (1, 12), (-768, 768)],
    7: [(1, 12)] * 2, 10: [(-768, 768)], 11: [(-20000, 20000)], 12: [(2, 12)], 14: [(1, 12)], 15: [(1, 11)],
}
ROWS = {3: (0, 12, 1, 12), 9: (0, 12, 1, 12), 4: (2, 64, -10000, 10000)}
# What each call answers first, somewhere in these lines.
FIRST = {
    0: {0, -1}, 1: {0, -1, -2, -3, -7}, 2: {0, -1, -2, -3, -7, -8}, 3: {0, -1, -2, -3, -6, -8},
    4: {0, -1, -2, -5}, 5: {0, -1, -2, -5}, 6: {0, -2}, 7: {0, -1, -2}, 8: {0, -2}, 9: {0, -1, -2},
    10: {0, -1}, 11: {0, -1}, 12: {0, -1, -2, -5}, 13: {0, -2, -4}, 14: {0, -1, -2, -4, -5}, 15: {0, -1, -2, -5},
}


@functools.cache
def every_pairing(teams):
    """Every pairing of these teams, each a list of pairs."""
    if not teams:
        return [[]]
    return [
        [(teams[0], teams[at])] + rest
        for at in range(1, len(teams)) for rest in every_pairing(teams[1:at] + teams[at + 1:])
    ]


def units_for(apart):
    units = 0
    for limit in LIMITS:
        if abs(apart) >= limit:
            units += 1 if apart > 0 else -1
    return units


def points_for(units):
    points = 10
    for m in range(1, 11):
        if m * m <= 4 * abs(units):
            points = 10 + m if units >= 0 else 10 - m
    return points


def twos_of(row):
    return [tuple(row[at:at + 2]) for at in range(0, len(row), 2)]


class Plain:
    """What was told so far; whatever is asked is reckoned anew from that."""

    def __init__(self):
        self.start(0)

    def start(self, n):
        self.n = n
        self.rounds = []  # Of each round its pairs.
        self.results = {}  # By the number of the round and the pair: the units as its first team sees them.
        self.seeds = None
        self.wins = []

    def in_range(self, call):
        ranges = NUMBERS.get(call[0], [])
        if any(not low <= number <= high for number, (low, high) in zip(call[1:], ranges)):
            return False
        if call[0] not in ROWS:
            return True
        row = call[len(ranges) + 2:]
        fewest, most, low, high = ROWS[call[0]]
        return len(row) % 2 == 0 and fewest <= len(row) <= most and all(low <= number <= high for number in row)

    def answer(self, call):
        if not self.in_range(call):
            return [-1]
        if self.n == 0 and call[0] not in (0, 10, 11):
            return [-2]
        return getattr(self, f"call_{call[0]}")(*call[1:])

    def out_of(self, number):
        named = [team for two in self.rounds[number - 1] for team in two]
        return sum(team for team in range(1, self.n + 1) if team not in named)

    def outs(self):
        return [self.out_of(number) for number in range(1, len(self.rounds) + 1)]

    def points(self, team):
        total = 12 * self.outs().count(team)
        for (number, two), units in self.results.items():
            if team in two:
                total += points_for(units if team == two[0] else -units)
        return total

    def units(self, team):
        total = 0
        for (number, two), units in self.results.items():
            total += units * ((team == two[0]) - (team == two[1]))
        return total

    def order(self):
        ranks = {team: (self.points(team), self.units(team), -team) for team in range(1, self.n + 1)}
        return sorted(ranks, key=ranks.get, reverse=True)

    def whole(self):
        count = len(self.rounds)
        return count == 0 or all((count, two) in self.results for two in self.rounds[-1])

    def pairings_without(self, out):
        have_met = {frozenset(two) for twos in self.rounds for two in twos}
        others = tuple(team for team in range(1, self.n + 1) if team != out)
        return [
            twos for twos in every_pairing(others) if not any(frozenset(two) in have_met for two in twos)
        ]

    def may_sit_out(self):
        return [team for team in self.order() if team not in self.outs()] if self.n % 2 else [0]

    def next_row(self, mode):
        """Who sits out, and the next pairing as one row; None if there's none."""
        order = self.order()
        points = {team: self.points(team) for team in order}
        for out in reversed(self.may_sit_out()):
            told = []
            for twos in self.pairings_without(out):
                twos = [tuple(sorted(two, key=order.index)) for two in twos]
                twos = sorted(twos, key=lambda two: order.index(two[0]))
                cost = sum((points[a] - points[b]) ** 2 for a, b in twos)
                told.append((cost * mode, [order.index(b) for a, b in twos], twos))
            if told:
                return out, [team for two in min(told)[2] for team in two]
        return None

    def fault(self, row):
        if len(set(row)) < len(row) or any(team > self.n for team in row) or len(row) // 2 != self.n // 2:
            return 1
        if self.n % 2 and [team for team in range(1, self.n + 1) if team not in row][0] in self.outs():
            return 2
        return 3 if any(self.call_7(a, b) != [0, 0] for a, b in twos_of(row)) else 0

    def tell(self, number, a, b, units):
        if not 1 <= number <= len(self.rounds):
            return False
        for two in self.rounds[number - 1]:
            if two in ((a, b), (b, a)):
                self.results[(number, two)] = units if two[0] == a else -units
                return True
        return False

    def knock_out(self):
        """The row and who has won in it, played through from its beginning."""
        places = min(size for size in SEEDS if size >= len(self.seeds))
        row = [(self.seeds + [0] * 16)[seed - 1] for seed in SEEDS[places]]
        won = []
        for team in self.wins:
            won.append(team)
            ahead = [[one for one in two if one in won or 0 in two and one] for two in twos_of(row)]
            if all(ahead):
                row, won = [one[0] for one in ahead], []
        return row, won

    def call_0(self, n):
        self.start(n)
        return [0]

    def call_1(self, mode):
        if not self.whole():
            return [-3]
        found = self.next_row(mode)
        return [-7] if found is None else [0, found[0], self.n // 2] + found[1]

    def call_2(self, mode):
        if self.whole() and len(self.rounds) == 11:
            return [-8]
        told = self.call_1(mode)
        if told[0] != 0:
            return told
        self.rounds.append(twos_of(told[3:]))
        return [0, len(self.rounds)]

    def call_3(self, size, *row):
        if not self.whole():
            return [-3]
        if len(self.rounds) == 11:
            return [-8]
        if self.fault(row):
            return [-6]
        self.rounds.append(twos_of(row))
        return [0, len(self.rounds)]

    def call_4(self, a, b, size, *scores):
        units = sum(units_for(one - other) for one, other in twos_of(scores))
        if not self.tell(len(self.rounds), a, b, units):
            return [-5]
        return [0, units, points_for(units), points_for(-units)]

    def call_5(self, number, a, b, units):
        return [0, points_for(units), points_for(-units)] if self.tell(number, a, b, units) else [-5]

    def call_6(self):
        told = [0, self.n]
        for team in self.order():
            told += [team, self.points(team), self.units(team), self.outs().count(team)]
        return told

    def call_7(self, a, b):
        for number, twos in enumerate(self.rounds, start=1):
            if (a, b) in twos or (b, a) in twos:
                return [0, number]
        return [0, 0]

    def call_8(self):
        return [0, sum(len(self.pairings_without(out)) for out in self.may_sit_out())]

    def call_9(self, size, *row):
        fault = self.fault(row)
        return [0, fault, 0 if fault else sum((self.points(a) - self.points(b)) ** 2 for a, b in twos_of(row))]

    def call_10(self, units):
        return [0, points_for(units), 20 - points_for(units)]

    def call_11(self, apart):
        return [0, units_for(apart)]

    def call_12(self, k):
        if k > self.n:
            return [-5]
        self.seeds, self.wins = self.order()[:k], []
        return [0, len(self.knock_out()[0])]

    def call_13(self):
        if self.seeds is None:
            return [-4]
        row, won = self.knock_out()
        return [0, len(row), *row, len(won), *won]

    def call_14(self, team):
        if self.seeds is None:
            return [-4]
        row, won = self.knock_out()
        for two in twos_of(row):
            if team in two and len(two) == 2 and 0 not in two and not set(two) & set(won):
                self.wins.append(team)
                row = self.knock_out()[0]
                return [0, len(row), row[0] if len(row) == 1 else 0]
        return [-5]

    def call_15(self, number):
        if number > len(self.rounds):
            return [-5]
        told = [0, self.out_of(number), len(self.rounds[number - 1])]
        for two in self.rounds[number - 1]:
            told += [*two, int((number, two) in self.results), self.results.get((number, two), 0)]
        return told


class Maker:
    """Makes a line, call by call, from what is so far, so that most calls find something to do."""

    def __init__(self, chance, size):
        self.chance = chance
        self.size = size  # The most teams.
        self.plain = Plain()
        self.searches = 0
        self.deck = []

    def line(self, length):
        """The calls, and what is answered to each."""
        calls = []
        told = []
        while len(calls) < length:
            call = self.call()
            self.searches += call[0] in (1, 2, 8)
            calls.append(call)
            told.append(self.plain.answer(call))
        return calls, told

    def call(self):
        chance = self.chance
        if chance.random() < (0.3 if self.plain.n == 0 else 0.005):
            n = chance.randint(2 if chance.random() < 0.3 else self.size // 2, self.size)
            order = chance.sample(range(1, n + 1), n)
            self.deck = [[order[team - 1] for team in row] for row in circle(n)]
            chance.shuffle(self.deck)
            call = [0, n]
        else:
            call = self.result() if chance.random() < 0.3 else self.other()
        return self.spoilt(call) if chance.random() < 0.06 else call

    def spoilt(self, call):
        """The call with a number out of its range, at it or near it."""
        call = list(call)
        ranges = NUMBERS.get(call[0], [])
        if ranges:
            at = self.chance.randrange(len(ranges))
            low, high = ranges[at]
            call[at + 1] = self.chance.choice((low - 1, low, high, high + 1, BIG, -BIG))
        elif len(call) > 2:
            at = self.chance.randrange(2, len(call))
            if self.chance.random() < 0.5:
                call[at] = self.chance.choice((0, 1, 12, 13, BIG, -BIG))
            else:
                call = [call[0], call[1] - 1] + call[3:]
        return call

    def result(self):
        """A result of a match that is there, mostly of the last round."""
        chance = self.chance
        rounds = self.plain.rounds
        if not rounds:
            return [5, 1, 1, 2, 3]
        number = len(rounds) if chance.random() < 0.8 else chance.randint(1, len(rounds))
        missing = [two for two in rounds[number - 1] if (number, two) not in self.plain.results]
        two = list(chance.choice(missing or rounds[number - 1]))
        chance.shuffle(two)
        if chance.random() < 0.5:
            return [5, number, *two, chance.choice((0, chance.randint(-30, 30), chance.randint(-768, 768)))]
        scores = [chance.choice((10, 100, 1000, 10000)) for at in range(2 * chance.randint(1, 32))]
        return [4, *two, len(scores), *[chance.randint(-score, score) for score in scores]]

    def other(self):
        chance = self.chance
        kind = chance.choice((1, 2, 2, 3, 3, 3, 3, 4, 5, 6, 7, 8, 9, 9, 10, 11, 12, 13, 13, 14, 14, 14, 14, 14, 15, 15))
        if kind in (1, 2, 8) and self.searches >= 12:
            kind = 14
        if kind in (3, 9):
            row = self.row()
            return [kind, len(row), *row]
        if kind == 4:
            return [4, chance.randint(1, 12), chance.randint(1, 12), 2, 50, 0]
        begun = self.plain.seeds is not None
        if kind == 14 and not begun and chance.random() < 0.8:
            kind = 12
        if kind == 14 and begun and chance.random() < 0.8:
            return [14, chance.choice([team for team in self.plain.knock_out()[0] if team])]
        return [kind] + [chance.randint(*limits) for limits in NUMBERS.get(kind, [])]

    def row(self):
        """A row of teams by twos: mostly the next of a whole circle, else without much sense."""
        chance = self.chance
        turn = len(self.plain.rounds)
        if turn < len(self.deck) and chance.random() < 0.7:
            return self.deck[turn]
        row = chance.sample(range(1, 13), 2 * chance.randint(0, 6))
        if chance.random() < 0.8 and self.plain.n:
            row = chance.sample(range(1, self.plain.n + 1), self.plain.n // 2 * 2)
        return row


class Mixed(unittest.TestCase):
    def compare(self, seed, size, length):
        """What each call of this line answers first, by the call."""
        calls, wanted = Maker(random.Random(seed), size).line(length)
        told = ask(*calls)
        if told != wanted:
            at = [one == other for one, other in zip(told, wanted)].index(False)
            self.fail(f"seed {seed}: {calls[:at + 1]}: {told[at]}, not {wanted[at]}")
        return [(call[0], answer[0]) for call, answer in zip(calls, told)]

    def test_against_the_plain_reckoning(self):
        first = {}
        for seed in range(150):
            size = (12, 9, 6, 9, 6)[seed % 5]
            for kind, answer in self.compare(seed, size, 200):
                first.setdefault(kind, set()).add(answer)
        # Full are 11 and 12 teams alone.
        for seed in range(200, 220):
            for kind, answer in self.compare_full(seed):
                first.setdefault(kind, set()).add(answer)
        for kind, answered in FIRST.items():
            self.assertEqual((kind, first[kind]), (kind, answered))

    def compare_full(self, seed):
        """As compare, for a line that plays eleven rounds first."""
        chance = random.Random(seed)
        maker = Maker(chance, 12)
        n = chance.choice((11, 12))
        calls = [[0, n]]
        for number, row in enumerate(circle(n), start=1):
            calls.append([3, len(row), *row])
            calls += [[5, number, a, b, chance.randint(-40, 40)] for a, b in twos_of(row)]
        wanted = [maker.plain.answer(call) for call in calls]
        more, more_wanted = maker.line(200 - len(calls))
        self.assertEqual(ask(*calls, *more), wanted + more_wanted)
        return [(call[0], answer[0]) for call, answer in zip(more, more_wanted)]


if __name__ == "__main__":
    unittest.main()
