"""The calls on one event: each is looked at, carried out and answered."""

from teamrounds.bounds import by_twos, split_calls
from teamrounds.knockout import KnockOut
from teamrounds.pairings import fault, next_round, not_named, pairings_left, row_cost
from teamrounds.rounds import Event, Round
from teamrounds.scores import board_units, match_points, match_units

OUT_OF_RANGE = -1
NO_TEAMS = -2
NOT_WHOLE = -3
NO_KNOCK_OUT = -4
NOT_THERE = -5
MAY_NOT_BE = -6
NO_PAIRING = -7
FULL = -8


def answer_teams(event, call):
    event.begin(call.numbers[0])
    return [0]


def answer_pair(event, call):
    if not event.is_whole():
        return [NOT_WHOLE]
    found = next_round(event, call.numbers[0])
    if found is None:
        return [NO_PAIRING]
    told = [0, found.sits_out, len(found.matches)]
    for one in found.matches:
        told.extend([one.first, one.second])
    return told


def answer_draw(event, call):
    if not event.is_whole():
        return [NOT_WHOLE]
    if event.is_full():
        return [FULL]
    found = next_round(event, call.numbers[0])
    if found is None:
        return [NO_PAIRING]
    event.rounds.append(found)
    return [0, len(event.rounds)]


def answer_own(event, call):
    if not event.is_whole():
        return [NOT_WHOLE]
    if event.is_full():
        return [FULL]
    if fault(event, call.row) != 0:
        return [MAY_NOT_BE]
    event.rounds.append(Round(by_twos(call.row), not_named(event, call.row)))
    return [0, len(event.rounds)]


def answer_match(event, call):
    found = event.match_of(len(event.rounds), call.numbers[0], call.numbers[1])
    if found is None:
        return [NOT_THERE]
    units = match_units(by_twos(call.row))
    found.tell(call.numbers[0], units)
    return [0, units, match_points(units), match_points(-units)]


def answer_result(event, call):
    found = event.match_of(call.numbers[0], call.numbers[1], call.numbers[2])
    if found is None:
        return [NOT_THERE]
    units = call.numbers[3]
    found.tell(call.numbers[1], units)
    return [0, match_points(units), match_points(-units)]


def answer_standing(event, call):
    told = [0, event.size]
    for place in event.standing():
        told.extend([place.team, place.points, place.units, 1 if place.sat_out else 0])
    return told


def answer_met(event, call):
    return [0, event.met_in(call.numbers[0], call.numbers[1])]


def answer_left(event, call):
    return [0, pairings_left(event)]


def answer_check(event, call):
    found = fault(event, call.row)
    return [0, found, row_cost(event, call.row) if found == 0 else 0]


def answer_points(event, call):
    units = call.numbers[0]
    return [0, match_points(units), match_points(-units)]


def answer_units(event, call):
    return [0, board_units(call.numbers[0])]


def answer_knock(event, call):
    size = call.numbers[0]
    if size > event.size:
        return [NOT_THERE]
    event.knock_out = KnockOut([place.team for place in event.standing()[:size]])
    return [0, len(event.knock_out.row)]


def answer_row(event, call):
    found = event.knock_out
    if found is None:
        return [NO_KNOCK_OUT]
    return [0, len(found.row)] + found.row + [len(found.won)] + found.won


def answer_win(event, call):
    found = event.knock_out
    if found is None:
        return [NO_KNOCK_OUT]
    if not found.may_win(call.numbers[0]):
        return [NOT_THERE]
    found.win(call.numbers[0])
    return [0, len(found.row), found.row[0] if len(found.row) == 1 else 0]


def answer_round_of(event, call):
    found = event.round_of(call.numbers[0])
    if found is None:
        return [NOT_THERE]
    told = [0, found.sits_out, len(found.matches)]
    for one in found.matches:
        told.extend([one.first, one.second])
        told.extend([0, 0] if one.units is None else [1, one.units])
    return told


# By the call's number.
ANSWERING = (
    answer_teams, answer_pair, answer_draw, answer_own,
    answer_match, answer_result, answer_standing, answer_met,
    answer_left, answer_check, answer_points, answer_units,
    answer_knock, answer_row, answer_win, answer_round_of,
)
# The calls that are answered when there are no teams: teams, points and units.
WITHOUT_TEAMS = (0, 10, 11)


def answer_call(event, call):
    """What is answered to this call: 0 and more numbers, or a refusal alone."""
    if not call.is_in_range():
        return [OUT_OF_RANGE]
    if event.size == 0 and call.kind not in WITHOUT_TEAMS:
        return [NO_TEAMS]
    answering = ANSWERING[call.kind]
    return answering(event, call)


def answers(calls):
    """For each of these calls on a new event, in order: how many numbers are answered, then these."""
    event = Event()
    told = []
    for call in split_calls(calls):
        answer = answer_call(event, call)
        told.append(len(answer))
        told.extend(answer)
    return told
