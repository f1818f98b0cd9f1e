"""Cuts of squares: a column for each line, all different, with different places in these cells."""

from movedround.arithmetic import add_up, all_places
from movedround.checks import check_at_most, check_dials, check_square, is_each_once
from movedround.errors import BadColumns
from movedround.listing import list_dealt
from movedround.squares import list_surplus
from movedround.values import is_all_different


def list_cells(dials, lines):
    """For each line the dict from the columns to the places in it."""
    return [{column: place for column, place in zip(all_places(dials), line)} for line in lines]


def places_at(dials, lines, columns):
    """The places in the cells of these columns, line by line."""
    return [cells[column] for cells, column in zip(list_cells(dials, lines), columns)]


def is_cut_of(dials, lines, thing):
    """Whether any value is a cut of the square."""
    return is_each_once(dials, thing) and is_all_different(places_at(dials, lines, thing))


def list_cuts(dials, lines):
    """The ascending list of all cuts of a square."""
    return list_dealt(list_cells(dials, lines), all_places(dials))


def is_cut(dials, square, thing):
    """Whether any value is a cut of the square."""
    check_dials(dials)
    check_square(dials, square)
    return is_cut_of(dials, square, thing)


def cuts(dials, square):
    """The ascending list of all cuts of a square."""
    check_dials(dials)
    check_square(dials, square)
    check_at_most(dials, 7)
    return list_cuts(dials, square)


def surplus_total(dials, square, columns):
    """The total of the surplus in the cells of these columns, line by line."""
    check_dials(dials)
    check_square(dials, square)
    if not is_each_once(dials, columns):
        raise BadColumns("columns are not a tuple with each place once")
    return add_up(dials, places_at(dials, list_surplus(dials, square), columns))
