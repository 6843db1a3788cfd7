"""What the tests share: calls as lists of numbers, a line of them, and its answers one by one."""

from teamrounds.event import answers

BIG = 10 ** 18


def teams(n):
    return [0, n]


def pair(mode):
    return [1, mode]


def draw(mode):
    return [2, mode]


def own(*row):
    return [3, len(row), *row]


def match(a, b, *scores):
    return [4, a, b, len(scores), *scores]


def result(number, a, b, units):
    return [5, number, a, b, units]


def standing():
    return [6]


def met(a, b):
    return [7, a, b]


def left():
    return [8]


def check(*row):
    return [9, len(row), *row]


def points_of(units):
    return [10, units]


def units_of(apart):
    return [11, apart]


def knock(k):
    return [12, k]


def knock_row():
    return [13]


def win(team):
    return [14, team]


def round_of(number):
    return [15, number]


def ask(*calls):
    """The answers to a line of calls, each a list; the line itself must be left as it was."""
    line = [number for call in calls for number in call]
    handed = list(line)
    told = answers(handed)
    if handed != line:
        raise AssertionError("what was handed in is changed")
    split = []
    while told:
        split.append(told[1:1 + told[0]])
        told = told[1 + told[0]:]
    if len(split) != len(calls):
        raise AssertionError(f"{len(calls)} calls, {len(split)} answers")
    return split


def last(*calls):
    """The answer to the last call of a line."""
    return ask(*calls)[-1]


def played(number, row, units=0):
    """The calls for an own round of this number and its results, all of these units."""
    calls = [own(*row)]
    for at in range(0, len(row), 2):
        calls.append(result(number, row[at], row[at + 1], units))
    return calls


def circle(n):
    """Rows for as many rounds as n teams (an odd one with one more) can play; the last team sits out by turns."""
    even = n + n % 2
    rows = []
    for turn in range(even - 1):
        ring = [(turn + step) % (even - 1) + 1 for step in range(even - 1)]
        row = [ring[0], even]
        for at in range(1, even // 2):
            row += [ring[at], ring[-at]]
        twos = [row[at:at + 2] for at in range(0, even, 2)]
        rows.append([team for two in twos if max(two) <= n for team in two])
    return rows


def all_rounds(n):
    """The calls for a new event of n teams with all rounds of the circle, whole."""
    calls = [teams(n)]
    for number, row in enumerate(circle(n), start=1):
        calls += played(number, row)
    return calls


# The standing is 5 1 2 3 4 6 with 24 24 24 20 20 8 points. What is possible, and its cost:
# 5-1 2-6 3-4: 256; 5-2 1-3 4-6: 160; 5-4 1-2 3-6: 160; 5-4 1-3 2-6: 288.
UNLIKE_EVEN = [
    teams(6),
    own(1, 4, 2, 3, 5, 6), result(1, 1, 4, 0), result(1, 2, 3, 4), result(1, 5, 6, 16),
    own(1, 6, 2, 4, 3, 5), result(2, 1, 6, 4), result(2, 2, 4, 0), result(2, 3, 5, 4),
]
# The standing is 3 5 1 2 4 7 6 with 28 24 24 22 20 16 10 points; 7 and 1 have sat out.
UNLIKE_ODD = [
    teams(7),
    own(1, 2, 3, 4, 5, 6), result(1, 1, 2, 1), result(1, 3, 4, 1), result(1, 5, 6, 9),
    own(2, 6, 3, 7, 4, 5), result(2, 2, 6, 4), result(2, 3, 7, 9), result(2, 4, 5, 1),
]
# All who have not met stand within 1 2 3 or within 4 5 6: two threes, no pairing.
TWO_THREES = [
    teams(6),
    *played(1, (1, 4, 2, 5, 3, 6)),
    *played(2, (1, 5, 2, 6, 3, 4)),
    *played(3, (1, 6, 2, 4, 3, 5)),
]
