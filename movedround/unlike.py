"""Dealings in which each person has another move, and those that come nearest to it."""

from movedround.arithmetic import add, all_halves, all_places
from movedround.checks import check_dealing, check_dials, check_move, check_one_half, is_dealt, is_dealt_unlike
from movedround.hands import deal


def is_unlike(dials, thing):
    """Whether any value is an unlike dealing."""
    check_dials(dials)
    return is_dealt_unlike(dials, thing)


def unlike(dials):
    """An unlike dealing; None if there is none."""
    check_dials(dials)
    return deal(dials, all_places(dials))


def missed(dials, dealing):
    """The ascending tuple of the places that are nobody's move."""
    check_dials(dials)
    check_dealing(dials, dealing)
    return tuple([place for place in all_places(dials) if place not in dealing])


def near_row(dials, move):
    """The row of the near dealings for a move, where there is just one half."""
    twice = add(dials, move, all_halves(dials)[0])
    return tuple(sorted([place for place in all_places(dials) if place != move] + [twice]))


def is_near(dials, move, thing):
    """Whether there is just one half, and any value is a near dealing for this move."""
    check_dials(dials)
    check_move(dials, move)
    if len(all_halves(dials)) != 1 or not is_dealt(dials, thing):
        return False
    return tuple(sorted(thing)) == near_row(dials, move)


def near(dials, move):
    """A near dealing for this move."""
    check_dials(dials)
    check_move(dials, move)
    check_one_half(dials)
    return deal(dials, near_row(dials, move))
