"""The next pairing of an event, how many there are, and the faults and the cost of one that is handed in."""

from teamrounds.bounds import by_twos
from teamrounds.rounds import Round


def next_round(event, mode):
    """The round that the next pairing makes, not put into the event; None if there's no pairing."""
    places = event.standing()
    costs = pair_costs(event, places, mode)
    known = {}
    for sits_out in may_sit_out(places):
        found = cheapest(teams_without(places, sits_out), costs, known)
        if found is not None:
            return Round(found[1], sits_out)
    return None


def pairings_left(event):
    """How many pairings there are; if one has to sit out, those for each that may, all together."""
    places = event.standing()
    # In either mode the pairs that may be are the same.
    costs = pair_costs(event, places, 0)
    known = {}
    return sum([count_pairings(teams_without(places, sits_out), costs, known) for sits_out in may_sit_out(places)])


def may_sit_out(places):
    """Who may sit out, by number, the first choice first; just 0 if nobody has to."""
    if len(places) % 2 == 0:
        return [0]
    return [place.team for place in reversed(places) if not place.sat_out]


def teams_without(places, sits_out):
    """The teams in the standing's order, but the one that sits out."""
    return [place.team for place in places if place.team != sits_out]


def pair_costs(event, places, mode):
    """The cost of each pair that has not met, by its two teams in the standing's order."""
    costs = {}
    for at, upper in enumerate(places):
        for lower in places[at + 1:]:
            if event.met_in(upper.team, lower.team) == 0:
                # Where no pair costs anything, the earliest of the cheapest is the earliest of all.
                costs[(upper.team, lower.team)] = pair_cost(upper.points, lower.points) if mode == 1 else 0
    return costs


def pair_cost(points, other_points):
    """The cost of a pair of teams with these points."""
    apart = points - other_points
    return apart * apart


def cheapest(teams, costs, known):
    """The cost and the pairs of the earliest of the cheapest pairings of these teams; None if they have none.

    What is found is kept in known: the same teams are left over behind many beginnings.
    """
    if len(teams) == 0:
        return (0, [])
    key = tuple(teams)
    if key in known:
        return known[key]
    best = None
    for partner in teams[1:]:
        pair = (teams[0], partner)
        if pair not in costs:
            continue
        rest = cheapest([team for team in teams if team not in pair], costs, known)
        if rest is None:
            continue
        cost = costs[pair] + rest[0]
        # Partners come in the standing's order: of equal costs the earlier pairing stays.
        if best is None or cost < best[0]:
            best = (cost, [pair] + rest[1])
    known[key] = best
    return best


def count_pairings(teams, costs, known):
    """How many pairings these teams have, of the pairs that have a cost.

    What is found is kept in known, as with the cheapest.
    """
    if len(teams) == 0:
        return 1
    key = tuple(teams)
    if key in known:
        return known[key]
    count = 0
    for partner in teams[1:]:
        if (teams[0], partner) in costs:
            count += count_pairings([team for team in teams[1:] if team != partner], costs, known)
    known[key] = count
    return count


def fault(event, row):
    """Why the teams of this row, by twos, can't be the next round: 1, 2 or 3; 0 if they can."""
    if len(set(row)) != len(row) or len(row) != event.size // 2 * 2:
        return 1
    if max(row) > event.size:
        return 1
    sits_out = not_named(event, row)
    if sits_out != 0 and event.has_sat_out(sits_out):
        return 2
    if any([event.met_in(pair[0], pair[1]) != 0 for pair in by_twos(row)]):
        return 3
    return 0


def row_cost(event, row):
    """The cost of the teams of this row, by twos."""
    points = {}
    for place in event.standing():
        points[place.team] = place.points
    return sum([pair_cost(points[pair[0]], points[pair[1]]) for pair in by_twos(row)])


def not_named(event, row):
    """The first team that doesn't stand in this row; 0 if all do."""
    for team in range(1, event.size + 1):
        if team not in row:
            return team
    return 0
