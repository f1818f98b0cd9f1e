"""Seatings: the moves of a row for the persons of a lot, with different ends."""

from movedround.arithmetic import add_up, left_over, multiply, place_count, take_off
from movedround.checks import check_dials, is_part_of_dials, is_place
from movedround.errors import BadMove, TooMany
from movedround.hands import deal, hand_all
from movedround.listing import first_dealt, list_dealt, list_ends
from movedround.lots import check_lot, check_lot_row


def check_lot_most(lot, most):
    if len(lot) > most:
        raise TooMany(most)


def has_all_places(dials, lot):
    return len(lot) == place_count(dials)


def check_lot_or_all(dials, lot, most):
    """Refuses a lot of more persons, unless it has all places."""
    if not has_all_places(dials, lot):
        check_lot_most(lot, most)


def find_part_bar(dials, lot, row):
    """The part that bars the row; None if there is none."""
    part = tuple(sorted([take_off(dials, person, lot[0]) for person in lot]))
    if not is_part_of_dials(dials, part):
        return None
    if not all([take_off(dials, move, row[0]) in part for move in row]):
        return None
    if add_up(dials, row) == multiply(dials, row[0], len(lot)):
        return None
    return part


def find_seating(dials, lot, row):
    """A seating; None if there is none."""
    if has_all_places(dials, lot):
        return deal(dials, row)
    if find_part_bar(dials, lot, row) is not None:
        return None
    return first_dealt(list_ends(dials, lot, row), row, ())


def seating(dials, lot, row):
    """A seating; None if there is none."""
    check_dials(dials)
    check_lot(dials, lot)
    check_lot_row(dials, lot, row)
    check_lot_or_all(dials, lot, 8)
    return find_seating(dials, lot, row)


def list_seatings(dials, lot, row):
    """The ascending list of all seatings."""
    return list_dealt(list_ends(dials, lot, row), row)


def seatings_many(dials, lot, row):
    """How many seatings there are."""
    check_dials(dials)
    check_lot(dials, lot)
    check_lot_row(dials, lot, row)
    check_lot_most(lot, 8)
    return len(list_seatings(dials, lot, row))


def part_bar(dials, lot, row):
    """The part of which the lot is a shift, if it holds all moves but the total of the row; None in all other cases."""
    check_dials(dials)
    check_lot(dials, lot)
    check_lot_row(dials, lot, row)
    return find_part_bar(dials, lot, row)


def all_but(dials, lot, row, move):
    """A pair: a person who is left out, and the moves of the row but this one for all others, None for the person."""
    check_dials(dials)
    check_lot(dials, lot)
    check_lot_row(dials, lot, row)
    if not is_place(dials, move) or move not in row:
        raise BadMove("not one of the moves of the row")
    held = hand_all(dials, lot, left_over(row, [move]))
    free = [person for person in lot if person not in held]
    return free[0], tuple([held.get(person) for person in lot])
