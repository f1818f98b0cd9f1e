"""Lots: persons who stand at some places only."""

from movedround.arithmetic import add
from movedround.checks import are_places, check_dials, check_place
from movedround.errors import BadLot, BadMoves, BadRow
from movedround.shifts import check_part, shifts
from movedround.values import is_all_different, is_ascending, is_rising, is_tuple_of


def is_lot_of(dials, thing):
    """Whether any value is a lot."""
    return isinstance(thing, tuple) and len(thing) > 0 and are_places(dials, thing) and is_rising(thing)


def check_lot(dials, lot):
    if not is_lot_of(dials, lot):
        raise BadLot("not an ascending tuple of one or more different places")


def is_row_for(dials, lot, thing):
    """Whether any value is a row of the lot."""
    return is_tuple_of(thing, len(lot)) and are_places(dials, thing) and is_ascending(thing)


def check_lot_row(dials, lot, row):
    if not is_row_for(dials, lot, row):
        raise BadRow("not an ascending tuple of as many moves as persons of the lot")


def reached_from(dials, lot, moves):
    """The ends of the persons of the lot, in their order."""
    return [add(dials, person, move) for person, move in zip(lot, moves)]


def is_seated(dials, lot, row, thing):
    """Whether any value is a seating of the row."""
    if not is_tuple_of(thing, len(lot)) or not are_places(dials, thing) or tuple(sorted(thing)) != row:
        return False
    return is_all_different(reached_from(dials, lot, thing))


def is_lot(dials, thing):
    """Whether any value is a lot."""
    check_dials(dials)
    return is_lot_of(dials, thing)


def is_lot_row(dials, lot, thing):
    """Whether any value is a row of the lot."""
    check_dials(dials)
    check_lot(dials, lot)
    return is_row_for(dials, lot, thing)


def lot_ends(dials, lot, moves):
    """The list of the ends, in the order of the persons of the lot."""
    check_dials(dials)
    check_lot(dials, lot)
    if not is_tuple_of(moves, len(lot)) or not are_places(dials, moves):
        raise BadMoves("not a tuple with a move for each person of the lot")
    return reached_from(dials, lot, moves)


def is_seating(dials, lot, row, thing):
    """Whether any value is a seating of the row."""
    check_dials(dials)
    check_lot(dials, lot)
    check_lot_row(dials, lot, row)
    return is_seated(dials, lot, row, thing)


def lot_shifted(dials, lot, place):
    """The lot of all its places plus the place."""
    check_dials(dials)
    check_lot(dials, lot)
    check_place(dials, place)
    return tuple(sorted([add(dials, person, place) for person in lot]))


def lot_parted(dials, lot, part):
    """The ascending list of the tuples of the places of the lot that lie in one and the same shift of the part."""
    check_dials(dials)
    check_lot(dials, lot)
    check_part(dials, part)
    found = [tuple([person for person in lot if person in shift]) for shift in shifts(dials, part)]
    return sorted([persons for persons in found if persons])
