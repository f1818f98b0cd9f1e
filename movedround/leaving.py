"""One move fewer than persons: who can be left out."""

from movedround.arithmetic import add_up, left_over, opposite, take_off
from movedround.behind import shift
from movedround.checks import check_dials, is_place
from movedround.errors import BadLot, BadPerson, BadRow
from movedround.hands import deal
from movedround.lots import is_lot_of, is_row_for
from movedround.seatings import check_lot_or_all, find_seating, has_all_places


def check_lot_of_two(dials, lot):
    if not is_lot_of(dials, lot) or len(lot) < 2:
        raise BadLot("not an ascending tuple of two or more different places")


def check_row_but_one(dials, lot, row):
    if not is_row_for(dials, lot[1:], row):
        raise BadRow("not an ascending tuple of one move fewer than persons of the lot")


def deal_without(dials, lot, row, person):
    """A seating of the row for all places but this person's."""
    missing = opposite(dials, add_up(dials, row))
    moves = deal(dials, tuple(sorted(row + (missing,))))
    # Moved round, it is the person to be left out who has the missing move.
    holder = lot[moves.index(missing)]
    moved = shift(dials, moves, take_off(dials, holder, person))
    return tuple([move for one, move in zip(lot, moved) if one != person])


def find_without(dials, lot, row, person):
    """A seating of the row for all others of the lot; None if there is none."""
    if has_all_places(dials, lot):
        return deal_without(dials, lot, row, person)
    return find_seating(dials, tuple(left_over(lot, [person])), row)


def leavable(dials, lot, row):
    """The ascending tuple of those persons of the lot without whom the others have a seating of the row."""
    check_dials(dials)
    check_lot_of_two(dials, lot)
    check_row_but_one(dials, lot, row)
    check_lot_or_all(dials, lot, 7)
    return tuple([person for person in lot if find_without(dials, lot, row, person) is not None])


def seating_without(dials, lot, row, person):
    """A seating of the row for all others of the lot; None if there is none."""
    check_dials(dials)
    check_lot_of_two(dials, lot)
    check_row_but_one(dials, lot, row)
    if not is_place(dials, person) or person not in lot:
        raise BadPerson("not a person of the lot")
    check_lot_or_all(dials, lot, 7)
    return find_without(dials, lot, row, person)
