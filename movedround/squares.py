"""Squares: lines of places, each of which stands once in each line and in each column."""

from movedround.arithmetic import add, all_places, take_off
from movedround.checks import check_dials, check_square, is_place, is_squared
from movedround.errors import BadColumn, BadLine


def is_square(dials, thing):
    """Whether any value is a square."""
    check_dials(dials)
    return is_squared(dials, thing)


def plain_square(dials):
    """The square that has the sum of the line and the column in each cell."""
    return tuple([tuple([add(dials, line, column) for column in all_places(dials)]) for line in all_places(dials)])


def square(dials):
    """The square that has x plus y in the line x and the column y."""
    check_dials(dials)
    return plain_square(dials)


def list_surplus(dials, lines):
    """The tuples of the places less their line and column, cell by cell."""
    return tuple([
        tuple([take_off(dials, place, plain) for place, plain in zip(line, plain_line)])
        for line, plain_line in zip(lines, plain_square(dials))
    ])


def surplus(dials, square):
    """The tuple of n tuples that come of a square, cell by cell: the place there less its line plus its column."""
    check_dials(dials)
    check_square(dials, square)
    return list_surplus(dials, square)


def ring_of(line, other_line, at):
    """The indexes of the least lot of columns, this one among them, in which the two lines have the same places."""
    ring = [at]
    while other_line[ring[-1]] != line[at]:
        ring.append(line.index(other_line[ring[-1]]))
    return ring


def check_lines(dials, one, other):
    if not is_place(dials, one):
        raise BadLine("one is not a line")
    if not is_place(dials, other) or other == one:
        raise BadLine("other is not another line")


def with_cells_of(line, other_line, ring):
    """The line with the cells of the other one in the columns of the ring."""
    return tuple([other_line[at] if at in ring else place for at, place in enumerate(line)])


def switched(dials, square, one, other, column):
    """The square in which two lines have their cells exchanged in the ring of the column."""
    check_dials(dials)
    check_square(dials, square)
    check_lines(dials, one, other)
    if not is_place(dials, column):
        raise BadColumn("not a column")
    line_of = {name: line for name, line in zip(all_places(dials), square)}
    ring = ring_of(line_of[one], line_of[other], all_places(dials).index(column))
    changed = {
        one: with_cells_of(line_of[one], line_of[other], ring),
        other: with_cells_of(line_of[other], line_of[one], ring),
    }
    return tuple([changed.get(name, line_of[name]) for name in line_of])
