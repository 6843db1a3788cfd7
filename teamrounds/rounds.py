"""An event: its teams, its rounds with their matches, and the standing."""

from teamrounds.scores import SIT_OUT_POINTS, match_points

MOST_ROUNDS = 11


class Match:
    """A match of two teams. Its units, as the first sees them, are None as long as it has no result."""

    def __init__(self, first, second):
        self.first = first
        self.second = second
        self.units = None

    def is_of(self, a, b):
        return (self.first == a and self.second == b) or (self.first == b and self.second == a)

    def tell(self, a, units):
        """Give the match this result, with the units as a sees them."""
        self.units = units if a == self.first else -units


class Round:
    """The matches of these pairs, and the team that sits out, 0 if none does."""

    def __init__(self, pairs, sits_out):
        self.matches = [Match(pair[0], pair[1]) for pair in pairs]
        self.sits_out = sits_out

    def is_whole(self):
        return all([one.units is not None for one in self.matches])

    def match_of(self, a, b):
        """The match of a and b, in either order; None if there's none."""
        for one in self.matches:
            if one.is_of(a, b):
                return one
        return None


class Place:
    """A team in the standing, with the sums of its points and units."""

    def __init__(self, team):
        self.team = team
        self.points = 0
        self.units = 0
        self.sat_out = False

    def play(self, units):
        self.points += match_points(units)
        self.units += units

    def sit_out(self):
        self.points += SIT_OUT_POINTS
        self.sat_out = True


class Event:
    """The teams 1 to size, their rounds, in order, and their knock-out, None if there's none.

    Of size 0: there are no teams.
    """

    def __init__(self):
        self.size = 0
        self.rounds = []
        self.knock_out = None

    def begin(self, size):
        """Make this a new event of so many teams."""
        self.size = size
        self.rounds = []
        self.knock_out = None

    def is_whole(self):
        """Whether a new round may follow: there is no round yet, or the last is whole."""
        return len(self.rounds) == 0 or self.rounds[-1].is_whole()

    def is_full(self):
        return len(self.rounds) == MOST_ROUNDS

    def round_of(self, number):
        """The round with this number; None if there's none."""
        if number < 1 or number > len(self.rounds):
            return None
        return self.rounds[number - 1]

    def match_of(self, number, a, b):
        """The match of a and b in the round with this number; None if there's none, or no such round."""
        found = self.round_of(number)
        return None if found is None else found.match_of(a, b)

    def met_in(self, a, b):
        """The number of the first round with a match of a and b; 0 if there's none."""
        for number, one in enumerate(self.rounds, start=1):
            if one.match_of(a, b) is not None:
                return number
        return 0

    def has_sat_out(self, team):
        return any([one.sits_out == team for one in self.rounds])

    def standing(self):
        """The places of all teams, in the standing's order."""
        places = [Place(team) for team in range(1, self.size + 1)]
        for one in self.rounds:
            add_round(places, one)
        return sorted(places, key=lambda place: (-place.points, -place.units, place.team))


def add_round(places, one):
    """Add what a round brings to the places, which stand in the order of the teams' numbers."""
    if one.sits_out != 0:
        places[one.sits_out - 1].sit_out()
    for played in one.matches:
        if played.units is not None:
            places[played.first - 1].play(played.units)
            places[played.second - 1].play(-played.units)
