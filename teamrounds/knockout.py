"""A knock-out: the row of its places, and who has won in it."""

from teamrounds.bounds import by_twos


class KnockOut:
    """A knock-out of these teams, the first seed first: its row now, and who has won in this row, in order."""

    def __init__(self, teams):
        self.row = [teams[seed - 1] if seed <= len(teams) else 0 for seed in seed_row(len(teams))]
        self.won = []
        self.go_on()

    def pairs(self):
        """The places that play, by twos. The one place of the last row plays against none."""
        return by_twos(self.row) if len(self.row) > 1 else []

    def decided_for(self, pair):
        """The team for which the match of these two places is decided, 0 if it isn't."""
        if 0 in pair:
            # An empty place is 0, below the number of any team.
            return max(pair)
        for team in pair:
            if team in self.won:
                return team
        return 0

    def may_win(self, team):
        """Whether this is a team of a match that isn't decided yet."""
        return any([team in pair and self.decided_for(pair) == 0 for pair in self.pairs()])

    def win(self, team):
        """Let the team win its match."""
        self.won.append(team)
        self.go_on()

    def go_on(self):
        """Begin the new row if all matches of this one are decided."""
        winners = [self.decided_for(pair) for pair in self.pairs()]
        if len(winners) > 0 and 0 not in winners:
            self.row = winners
            self.won = []


def seed_row(least):
    """The row of seeds with the least number of places that's at least so many."""
    row = [1]
    while len(row) < least:
        together = 2 * len(row) + 1
        wider = []
        for seed in row:
            wider.extend([seed, together - seed])
        row = wider
    return row
