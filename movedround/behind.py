"""Dealings one behind another, turned back, shifted and renamed; their rounds and swaps."""

from movedround.arithmetic import add, all_places, by_person, moves_to, nothing_of, opposite, place_count, reached
from movedround.checks import check_dealing, check_dials, check_place
from movedround.errors import BadNames
from movedround.shifts import is_renaming


def goal_by_person(dials, moves):
    """The dict from each person to the end."""
    return by_person(dials, reached(dials, moves))


def still(dials):
    """The dealing of nothing to all."""
    check_dials(dials)
    return (nothing_of(dials),) * place_count(dials)


def behind(dials, first, second):
    """The dealing that brings each person to where second brings who stands at their end by first."""
    check_dials(dials)
    check_dealing(dials, first)
    check_dealing(dials, second)
    goals = goal_by_person(dials, second)
    return moves_to(dials, [goals[place] for place in reached(dials, first)])


def turn_back(dials, moves):
    """The dealing that brings all back, for a dealing that is known to be one."""
    back = {goal: opposite(dials, move) for goal, move in zip(reached(dials, moves), moves)}
    return tuple([back[person] for person in all_places(dials)])


def undone(dials, dealing):
    """The dealing that brings all back."""
    check_dials(dials)
    check_dealing(dials, dealing)
    return turn_back(dials, dealing)


def shift(dials, moves, place):
    """Shifted, for a dealing and a place that are known to be such."""
    own = by_person(dials, moves)
    return tuple([own[add(dials, person, place)] for person in all_places(dials)])


def send_on(dials, moves, place):
    """Sent on, for a dealing and a place that are known to be such."""
    return tuple([add(dials, move, place) for move in moves])


def shifted(dials, dealing, place):
    """The dealing in which each person has the move that dealing gives to the person plus the place."""
    check_dials(dials)
    check_dealing(dials, dealing)
    check_place(dials, place)
    return shift(dials, dealing, place)


def sent_on(dials, dealing, place):
    """The dealing in which each person has their move plus the place."""
    check_dials(dials)
    check_dealing(dials, dealing)
    check_place(dials, place)
    return send_on(dials, dealing, place)


def renamed(dials, other, names, dealing):
    """The dealing of other in which the name of each person has the name of their move."""
    check_dials(dials)
    check_dials(other)
    if not is_renaming(dials, other, names):
        raise BadNames("not a renaming from the dials to the other ones")
    check_dealing(dials, dealing)
    name_of = {place: name for place, name in names}
    own = by_person(dials, dealing)
    renamed_moves = {name_of[person]: name_of[own[person]] for person in own}
    return tuple([renamed_moves[person] for person in all_places(other)])


def list_rounds(dials, moves):
    """The rounds of a dealing that is known to be one."""
    goals = goal_by_person(dials, moves)
    found = []
    met = {}
    for person in all_places(dials):
        one_round = []
        place = person
        while place not in met:
            met[place] = True
            one_round.append(place)
            place = goals[place]
        if one_round:
            found.append(one_round)
    return found


def rounds(dials, dealing):
    """The list of its rounds, each a list of persons."""
    check_dials(dials)
    check_dealing(dials, dealing)
    return list_rounds(dials, dealing)


def swaps(dials, dealing):
    """A list of pairs of places, as short as possible, by which all come to their ends."""
    check_dials(dials)
    check_dealing(dials, dealing)
    found = []
    for one_round in list_rounds(dials, dealing):
        # Who stands at the least place comes to their end there and then; the next one stands at the least place.
        found = found + [(one_round[0], place) for place in one_round[1:]]
    return found
