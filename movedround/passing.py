"""Moves passed on from hand to hand."""

from movedround.arithmetic import add, add_up, nothing_of
from movedround.checks import check_dealing, check_dials, check_move, check_place, check_row
from movedround.checks import is_partly_dealt, is_place
from movedround.errors import BadBegun, BadPerson
from movedround.hands import dealings_towards, exchange, pass_on
from movedround.values import is_all_different


def is_begun(dials, thing):
    """Whether any value is a begun dealing."""
    if not is_partly_dealt(dials, thing):
        return False
    return is_all_different([add(dials, person, thing[person]) for person in thing])


def check_two_free(dials, begun, first, second):
    if not is_place(dials, first) or first in begun:
        raise BadPerson("first is not a free person")
    if not is_place(dials, second) or second in begun or second == first:
        raise BadPerson("second is not another free person")


def check_two(dials, one, other):
    if not is_place(dials, one):
        raise BadPerson("one is not a person")
    if not is_place(dials, other) or other == one:
        raise BadPerson("other is not another person")


def passing(dials, begun, first, second, move):
    """A pair: the list of takes, and the begun dealing that is left behind the passing of the move."""
    check_dials(dials)
    if not is_begun(dials, begun):
        raise BadBegun("not a dict from some persons to moves with different ends")
    check_two_free(dials, begun, first, second)
    check_move(dials, move)
    return pass_on(dials, begun, first, second, move)


def key_of(dials, first, second, move):
    """First plus second plus move."""
    check_dials(dials)
    check_place(dials, first)
    check_place(dials, second)
    check_move(dials, move)
    return add_up(dials, [first, second, move])


def exchanged(dials, dealing, one, other, move):
    """The dealing that comes of it when the moves of two persons become that of one plus move, of other less move."""
    check_dials(dials)
    check_dealing(dials, dealing)
    check_two(dials, one, other)
    check_move(dials, move)
    return exchange(dials, dealing, one, other, move)


def row_path(dials, row, goal):
    """At most n dealings from row to goal, each by an exchange of the one before; None unless both can be dealt."""
    check_dials(dials)
    check_row(dials, row)
    check_row(dials, goal)
    if add_up(dials, row) != nothing_of(dials) or add_up(dials, goal) != nothing_of(dials):
        return None
    return dealings_towards(dials, row, goal)
