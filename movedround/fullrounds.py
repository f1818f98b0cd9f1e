"""Rounds of all persons by two moves."""

from math import comb

from movedround.arithmetic import add, all_places, multiply, place_count, take_off
from movedround.behind import list_rounds
from movedround.checks import check_dials, check_move, is_dealt
from movedround.dials import turn_of
from movedround.errors import BadOther
from movedround.shifts import part_of, shifts


def check_two_moves(dials, one, other):
    check_move(dials, one)
    check_move(dials, other)
    if other == one:
        raise BadOther("other is the same move as one")


def is_full_round(dials, one, other, thing):
    """Whether any value is a dealing of these two moves with all persons in one round."""
    check_dials(dials)
    check_two_moves(dials, one, other)
    if not is_dealt(dials, thing) or not all([move in (one, other) for move in thing]):
        return False
    return len(list_rounds(dials, thing)) == 1


def list_shifts(dials, one, other):
    """The shifts of the least part with one less other: all persons of such a shift have the same move."""
    return shifts(dials, part_of(dials, [take_off(dials, one, other)]))


def list_numbers(dials, one, other):
    """The ascending list of the numbers of shifts whose persons have the move one in some full round."""
    if len(part_of(dials, [one, other])) < place_count(dials):
        return []
    found = list_shifts(dials, one, other)
    numbers = []
    for number in range(len(found) + 1):
        once_round = add(dials, multiply(dials, one, number), multiply(dials, other, len(found) - number))
        if turn_of(dials, once_round) == len(found[0]):
            numbers.append(number)
    return numbers


def full_round(dials, one, other):
    """A full round; None if there is none."""
    check_dials(dials)
    check_two_moves(dials, one, other)
    numbers = list_numbers(dials, one, other)
    if not numbers:
        return None
    chosen = [person for shift in list_shifts(dials, one, other)[:numbers[0]] for person in shift]
    return tuple([one if person in chosen else other for person in all_places(dials)])


def full_counts(dials, one, other):
    """The dict from the numbers of persons who have the move one in some full round to how many have so many."""
    check_dials(dials)
    check_two_moves(dials, one, other)
    found = list_shifts(dials, one, other)
    return {len(found[0]) * number: comb(len(found), number) for number in list_numbers(dials, one, other)}
