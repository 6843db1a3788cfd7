"""From the boards of a match to its units, and from its units to points."""

# The least that a board must be apart for 1 unit, for 2 units, and so on.
LIMITS = (
    20, 50, 90, 130, 170, 220, 270, 320, 370, 430, 500, 600,
    750, 900, 1100, 1300, 1500, 1750, 2000, 2250, 2500, 3000, 3500, 4000,
)
EVEN_POINTS = 10
SIT_OUT_POINTS = 12


def board_units(apart):
    """The units of a board that is so far apart, below 0 if the number is below 0."""
    reached = [limit for limit in LIMITS if limit <= abs(apart)]
    return len(reached) if apart >= 0 else -len(reached)


def match_units(boards):
    """The units of a match, from the pairs of scores of its boards."""
    return sum([board_units(board[0] - board[1]) for board in boards])


def match_points(units):
    """The points of the team that sees these units."""
    more = 0
    while more < EVEN_POINTS and (more + 1) * (more + 1) <= 4 * abs(units):
        more += 1
    return EVEN_POINTS + more if units >= 0 else EVEN_POINTS - more
