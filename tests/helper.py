"""What the tests share: calls as lists of numbers, a line of them, and its answers one by one."""

from teamrounds.event import answers

BIG = 10 ** 18


def teams(n):
    return [0, n]


def pair(mode):
    return [1, mode]


def draw(mode):
    return [2, mode]


def own(*row):
    return [3, len(row), *row]


def match(a, b, *scores):
    return [4, a, b, len(scores), *scores]


def result(number, a, b, units):
    return [5, number, a, b, units]


def standing():
    return [6]


def met(a, b):
    return [7, a, b]


def ask(*calls):
    """The answers to a line of calls, each a list; the line itself must be left as it was."""
    line = [number for call in calls for number in call]
    handed = list(line)
    told = answers(handed)
    if handed != line:
        raise AssertionError("what was handed in is changed")
    split = []
    while told:
        split.append(told[1:1 + told[0]])
        told = told[1 + told[0]:]
    if len(split) != len(calls):
        raise AssertionError(f"{len(calls)} calls, {len(split)} answers")
    return split


def last(*calls):
    """The answer to the last call of a line."""
    return ask(*calls)[-1]


def played(number, row, units=0):
    """The calls for an own round of this number and its results, all of these units."""
    calls = [own(*row)]
    for at in range(0, len(row), 2):
        calls.append(result(number, row[at], row[at + 1], units))
    return calls


def circle(n):
    """Rows for as many rounds as n teams (an odd one with one more) can play; the last team sits out by turns."""
    even = n + n % 2
    rows = []
    for turn in range(even - 1):
        ring = [(turn + step) % (even - 1) + 1 for step in range(even - 1)]
        row = [ring[0], even]
        for at in range(1, even // 2):
            row += [ring[at], ring[-at]]
        twos = [row[at:at + 2] for at in range(0, even, 2)]
        rows.append([team for two in twos if max(two) <= n for team in two])
    return rows


def all_rounds(n):
    """The calls for a new event of n teams with all rounds of the circle, whole."""
    calls = [teams(n)]
    for number, row in enumerate(circle(n), start=1):
        calls += played(number, row)
    return calls
