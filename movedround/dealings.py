"""Dealings: a move for each person, and all come to places of their own."""

from movedround.arithmetic import reached
from movedround.checks import check_dealing, check_dials, check_moves, check_row, is_dealt
from movedround.hands import deal


def ends(dials, moves):
    """The list of the ends, in the order of the persons."""
    check_dials(dials)
    check_moves(dials, moves)
    return reached(dials, moves)


def is_dealing(dials, thing):
    """Whether any value is a dealing."""
    check_dials(dials)
    return is_dealt(dials, thing)


def row_of(dials, dealing):
    """The ascending tuple of the moves of a dealing."""
    check_dials(dials)
    check_dealing(dials, dealing)
    return tuple(sorted(dealing))


def is_dealing_of(dials, row, thing):
    """Whether any value is a dealing with this row."""
    check_dials(dials)
    check_row(dials, row)
    return is_dealt(dials, thing) and tuple(sorted(thing)) == row


def dealing(dials, row):
    """A dealing with this row; None if there is none."""
    check_dials(dials)
    check_row(dials, row)
    return deal(dials, row)
