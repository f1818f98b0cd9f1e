"""Straight dealings, and what an unlike dealing is, seen from a person."""

from movedround.arithmetic import add, all_places, by_person, multiply, nothing_of, opposite
from movedround.behind import send_on, shift
from movedround.checks import check_at_most, check_dials, check_number, check_unlike, is_dealt_unlike, is_place
from movedround.errors import BadPerson
from movedround.shifts import name_by


def is_straight(dials, thing):
    """Whether any value is an unlike dealing in which the move of a sum of persons is the sum of their moves."""
    check_dials(dials)
    if not is_dealt_unlike(dials, thing):
        return False
    move_of = by_person(dials, thing)
    return all([
        move_of[add(dials, one, other)] == add(dials, move_of[one], move_of[other])
        for one in move_of
        for other in move_of
    ])


def list_images(dials):
    """All ways to give each dial, turned on by one, a move that is nothing as many times as the dial has settings."""
    found = [()]
    for size in dials:
        fitting = [place for place in all_places(dials) if multiply(dials, place, size) == nothing_of(dials)]
        found = [begin + (place,) for begin in found for place in fitting]
    return found


def straights(dials):
    """The ascending list of all straight dealings."""
    check_dials(dials)
    check_at_most(dials, 12)
    found = []
    for images in list_images(dials):
        moves = tuple([name_by(dials, images, person) for person in all_places(dials)])
        if is_dealt_unlike(dials, moves):
            found.append(moves)
    return sorted(found)


def multiply_all(dials, number):
    """The moves of multiplied, be they an unlike dealing or not."""
    return tuple([multiply(dials, person, number) for person in all_places(dials)])


def multiplied(dials, number):
    """The dealing that gives to each person the own place so many times; None if this is no unlike dealing."""
    check_dials(dials)
    check_number(number)
    moves = multiply_all(dials, number)
    if is_dealt_unlike(dials, moves):
        return moves
    return None


def seen_from(dials, dealing, person):
    """The dealing that gives to each place x the move of the person at person plus x, less the move of person."""
    check_dials(dials)
    check_unlike(dials, dealing)
    if not is_place(dials, person):
        raise BadPerson("not a person")
    shifted_moves = shift(dials, dealing, person)
    return send_on(dials, shifted_moves, opposite(dials, shifted_moves[0]))
