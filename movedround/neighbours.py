"""Squares in which each two places stand side by side once, and tables at which all have each other at their side."""

from movedround.arithmetic import add, all_places, columns_of, place_count
from movedround.checks import are_places, check_dials, check_one_half, check_square, is_each_once, is_squared
from movedround.errors import BadColumns, BadLines
from movedround.roundwalks import check_round_walk
from movedround.routing import count_each
from movedround.values import is_all_different, is_listed, is_tuple_of
from movedround.walks import find_walk


def sum_square(dials, lines, columns):
    """The square of the sums of two orders."""
    return tuple([tuple([add(dials, line, column) for column in columns]) for line in lines])


def sums(dials, lines, columns):
    """The square that has the sum of the places of lines and of columns at their indexes."""
    check_dials(dials)
    if not is_each_once(dials, lines):
        raise BadLines("lines are not a tuple with each place once")
    if not is_each_once(dials, columns):
        raise BadColumns("columns are not a tuple with each place once")
    return sum_square(dials, lines, columns)


def list_beside(lines):
    """The pairs of what stands next behind one another in some line."""
    return [pair for line in lines for pair in zip(line, line[1:])]


def count_pairs(pairs):
    """The ascending dict from each pair to how often it stands there."""
    return count_each(sorted(pairs))


def side_by_side(dials, square):
    """The dict from the pairs of places, the second next behind the first in some line, to how many lines these are."""
    check_dials(dials)
    check_square(dials, square)
    return count_pairs(list_beside(square))


def stacked(dials, square):
    """The dict from the pairs of places, the second next below the first in some column, to how many these are."""
    check_dials(dials)
    check_square(dials, square)
    return count_pairs(list_beside(columns_of(square)))


def is_neighbourly(dials, thing):
    """Whether any value is a square with each two different places once side by side, once below each other."""
    check_dials(dials)
    if not is_squared(dials, thing):
        return False
    # There are as many pairs of different places as of neighbours: so none is missing if none is there twice.
    return is_all_different(list_beside(thing)) and is_all_different(list_beside(columns_of(thing)))


def neighbourly(dials):
    """A neighbourly square."""
    check_dials(dials)
    check_one_half(dials)
    route = find_walk(dials)
    return sum_square(dials, route, route)


def tables(dials, walk):
    """The list of the tuples that come of a round walk, one place added to all of it, for all places ascending."""
    check_dials(dials)
    check_round_walk(dials, walk)
    return [tuple([add(dials, place, step) for place in walk]) for step in all_places(dials)]


def is_table(dials, thing):
    """Whether any value is a tuple of all places but one."""
    return is_tuple_of(thing, place_count(dials) - 1) and are_places(dials, thing) and is_all_different(thing)


def are_tables(dials, thing):
    """Whether any value is a list of n tables at which any two have each other at their side once, to the right."""
    check_dials(dials)
    if not is_listed(thing) or len(thing) != place_count(dials):
        return False
    if not all([is_table(dials, each) for each in thing]):
        return False
    pairs = list_beside([each + each[:1] for each in thing])
    return is_all_different(pairs) and not any([one == other for one, other in pairs])
