"""All unlike dealings, and all near ones."""

from movedround.arithmetic import all_places
from movedround.checks import check_at_most, check_dials, check_move, check_one_half, is_partly_dealt
from movedround.errors import BadKnown
from movedround.listing import list_dealings
from movedround.unlike import near_row


def unlike_dealings(dials):
    """The ascending list of all unlike dealings."""
    check_dials(dials)
    check_at_most(dials, 9)
    return list_dealings(dials, tuple(all_places(dials)), {})


def unlike_many(dials):
    """How many unlike dealings there are."""
    check_dials(dials)
    check_at_most(dials, 9)
    return len(list_dealings(dials, tuple(all_places(dials)), {}))


def unlike_that(dials, known):
    """The ascending list of the unlike dealings in which each person of known has the move told there."""
    check_dials(dials)
    if not is_partly_dealt(dials, known):
        raise BadKnown("not a dict from some persons to moves")
    check_at_most(dials, 9)
    return list_dealings(dials, tuple(all_places(dials)), known)


def nears(dials, move):
    """The ascending list of all near dealings for this move."""
    check_dials(dials)
    check_move(dials, move)
    check_one_half(dials)
    check_at_most(dials, 8)
    return list_dealings(dials, near_row(dials, move), {})
