"""Even and odd dealings, and how they balance."""

from movedround.arithmetic import reached
from movedround.checks import check_at_most, check_dealing, check_dials, check_row
from movedround.listing import list_dealings


def has_even_ends(goals):
    """Whether the number of pairs of which the earlier one is greater is even."""
    crossed = 0
    for at, goal in enumerate(goals):
        crossed += len([later for later in goals[at + 1:] if goal > later])
    return crossed % 2 == 0


def is_even(dials, dealing):
    """Whether a dealing is even."""
    check_dials(dials)
    check_dealing(dials, dealing)
    return has_even_ends(reached(dials, dealing))


def balance(dials, row):
    """How many dealings with this row are even, less how many are odd."""
    check_dials(dials)
    check_row(dials, row)
    check_at_most(dials, 10)
    found = list_dealings(dials, row, {})
    even = [moves for moves in found if has_even_ends(reached(dials, moves))]
    return 2 * len(even) - len(found)
