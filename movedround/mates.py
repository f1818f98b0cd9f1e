"""Squares parted into cuts, and their mates."""

from movedround.apart import check_bundle
from movedround.arithmetic import all_places, place_count, take_off
from movedround.behind import send_on
from movedround.checks import check_at_most, check_dials, check_square, check_unlike
from movedround.cuts import is_cut_of, list_cuts
from movedround.errors import BadParting, NotMates
from movedround.squares import plain_square
from movedround.values import is_all_different, is_listed, is_rising


def is_parted(dials, lines, thing):
    """Whether any value is a parting of the square."""
    if not is_listed(thing) or len(thing) != place_count(dials):
        return False
    if not all([is_cut_of(dials, lines, each) for each in thing]) or not is_rising(thing):
        return False
    return all([is_all_different([cut[at] for cut in thing]) for at in range(len(thing))])


def is_parting(dials, square, thing):
    """Whether any value is a parting of the square."""
    check_dials(dials)
    check_square(dials, square)
    return is_parted(dials, square, thing)


def have_a_cell(cut, other):
    """Whether two cuts have a cell in common."""
    return any([column == another for column, another in zip(cut, other)])


def part_on(found, chosen, columns):
    """The cuts chosen and cuts of those found behind them, for the columns of the first line; None if there are none.

    No two of them have a cell in common.
    """
    if len(chosen) == len(columns):
        return chosen
    for cut in found:
        if cut[0] == columns[len(chosen)] and not any([have_a_cell(cut, other) for other in chosen]):
            parted = part_on(found, chosen + [cut], columns)
            if parted is not None:
                return parted
    return None


def parting(dials, square):
    """A parting of the square; None if there is none."""
    check_dials(dials)
    check_square(dials, square)
    check_at_most(dials, 6)
    return part_on(list_cuts(dials, square), [], all_places(dials))


def are_paired(one, other):
    """Whether the pairs of places, cell by cell, are all different."""
    return is_all_different([pair for line, another in zip(one, other) for pair in zip(line, another)])


def are_mates(dials, one, other):
    """Whether two squares are mates."""
    check_dials(dials)
    check_square(dials, one)
    check_square(dials, other)
    return are_paired(one, other)


def mate(dials, square, parting):
    """The square that has in the cells of the k-th cut the k-th place."""
    check_dials(dials)
    check_square(dials, square)
    if not is_parted(dials, square, parting):
        raise BadParting("not a parting of the square")
    columns = all_places(dials)
    lines = []
    for at in range(len(columns)):
        place_in = {cut[at]: place for cut, place in zip(parting, columns)}
        lines.append(tuple([place_in[column] for column in columns]))
    return tuple(lines)


def parting_by(dials, one, other):
    """The ascending list of the tuples of columns at which other has one and the same place."""
    check_dials(dials)
    check_square(dials, one)
    check_square(dials, other)
    if not are_paired(one, other):
        raise NotMates("the two squares are not mates")
    columns = all_places(dials)
    return sorted([tuple([columns[line.index(place)] for line in other]) for place in columns])


def shift_parting(dials, dealing):
    """The ascending list of the tuples that come of an unlike dealing, one place added to all its moves."""
    check_dials(dials)
    check_unlike(dials, dealing)
    return sorted([send_on(dials, dealing, place) for place in all_places(dials)])


def square_less(dials, moves):
    """The square that has y less the move of x in the line x and the column y."""
    return tuple([tuple([take_off(dials, column, move) for column in all_places(dials)]) for move in moves])


def squares_of(dials, bundle):
    """The plain square, and for each dealing of the bundle the one with y less the move of x."""
    check_dials(dials)
    check_bundle(dials, bundle)
    return [plain_square(dials)] + [square_less(dials, moves) for moves in bundle]
