"""Where each call begins and ends, and the ranges that its numbers keep to."""

# By the call's number: the least and the greatest of each of its whole numbers.
RANGES = (
    ((2, 12),),  # 0 teams
    ((0, 1),),  # 1 pair
    ((0, 1),),  # 2 draw
    (),  # 3 own
    ((1, 12), (1, 12)),  # 4 match
    ((1, 11), (1, 12), (1, 12), (-768, 768)),  # 5 result
    (),  # 6 standing
    ((1, 12), (1, 12)),  # 7 met
    (),  # 8 left
    (),  # 9 check
    ((-768, 768),),  # 10 points
    ((-20000, 20000),),  # 11 units
    ((2, 12),),  # 12 knock
    (),  # 13 row
    ((1, 12),),  # 14 win
    ((1, 11),),  # 15 round
)
# By the number of a call with a row: the fewest and the most numbers in it, the least and the greatest of them.
ROWS = {
    3: (0, 12, 1, 12),
    4: (2, 64, -10000, 10000),
    9: (0, 12, 1, 12),
}


class Call:
    """A call by its number, with its whole numbers and its row (empty if it has none)."""

    def __init__(self, kind, numbers, row):
        self.kind = kind
        self.numbers = numbers
        self.row = row

    def is_in_range(self):
        for number, limits in zip(self.numbers, RANGES[self.kind]):
            if number < limits[0] or number > limits[1]:
                return False
        return self.kind not in ROWS or is_row_in_range(self.row, self.kind)


def is_row_in_range(row, kind):
    limits = ROWS[kind]
    if len(row) % 2 == 1 or len(row) < limits[0] or len(row) > limits[1]:
        return False
    return all([limits[2] <= number <= limits[3] for number in row])


def by_twos(row):
    """The numbers of a row as pairs, each of two that follow one another."""
    return [(row[at], row[at + 1]) for at in range(0, len(row), 2)]


def split_calls(calls):
    """The calls that stand one behind another in this list."""
    split = []
    at = 0
    while at < len(calls):
        kind = calls[at]
        end = at + 1 + len(RANGES[kind])
        numbers = calls[at + 1:end]
        row = []
        if kind in ROWS:
            begin = end + 1
            end = begin + calls[end]
            row = calls[begin:end]
        split.append(Call(kind, numbers, row))
        at = end
    return split
