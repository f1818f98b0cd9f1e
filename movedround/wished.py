"""Seatings with the ends that are wished for."""

from movedround.checks import check_dials
from movedround.errors import BadGoals, BadSecond
from movedround.listing import first_dealt, list_ends
from movedround.lots import check_lot, check_lot_row, is_lot_of, is_row_for, reached_from
from movedround.seatings import check_lot_most, list_seatings


def find_wished(dials, persons, row, goals):
    """A seating of the persons, in their order, whose ends are among the goals; None if there is none."""
    ends_of = []
    for reachable in list_ends(dials, persons, row):
        ends_of.append({move: reachable[move] for move in reachable if reachable[move] in goals})
    return first_dealt(ends_of, row, ())


def wished(dials, lot, row, goals):
    """A seating whose ends are just the goals; None if there is none."""
    check_dials(dials)
    check_lot(dials, lot)
    check_lot_row(dials, lot, row)
    if not is_lot_of(dials, goals) or len(goals) != len(lot):
        raise BadGoals("not a lot of as many places as persons")
    check_lot_most(lot, 8)
    return find_wished(dials, lot, row, goals)


def seatings_by_goals(dials, lot, row):
    """The ascending dict from the goals of all seatings to the list of the seatings that have them."""
    found = {}
    for moves in list_seatings(dials, lot, row):
        goals = tuple(sorted(reached_from(dials, lot, moves)))
        if goals not in found:
            found[goals] = []
        found[goals].append(moves)
    return {goals: found[goals] for goals in sorted(found)}


def goals_reached(dials, lot, row):
    """The ascending dict from the goals of all seatings to how many seatings have them."""
    check_dials(dials)
    check_lot(dials, lot)
    check_lot_row(dials, lot, row)
    check_lot_most(lot, 6)
    found = seatings_by_goals(dials, lot, row)
    return {goals: len(found[goals]) for goals in found}


def seated_on(dials, lot, row, second):
    """A pair: a seating of row, and the moves of second that the same persons take then; None if there is none."""
    check_dials(dials)
    check_lot(dials, lot)
    check_lot_row(dials, lot, row)
    if not is_row_for(dials, lot, second):
        raise BadSecond("not an ascending tuple of as many moves as persons of the lot")
    check_lot_most(lot, 6)
    # Who stands where makes no difference to what can be seated from there: one seating for each goals will do.
    found = seatings_by_goals(dials, lot, row)
    for goals in found:
        moves = found[goals][0]
        ends_of = list_ends(dials, reached_from(dials, lot, moves), second)
        onward = first_dealt(ends_of, second, ())
        if onward is not None:
            return moves, onward
    return None
