"""Dials and their places."""

from movedround.arithmetic import add, add_up, all_halves, all_places, multiply, nothing_of, take_off
from movedround.checks import check_dials, check_number, check_place, check_several


def places(dials):
    """The ascending list of all places."""
    check_dials(dials)
    return all_places(dials)


def plus(dials, one, other):
    """One place plus another one."""
    check_dials(dials)
    check_place(dials, one)
    check_place(dials, other)
    return add(dials, one, other)


def less(dials, one, other):
    """One place less another one."""
    check_dials(dials)
    check_place(dials, one)
    check_place(dials, other)
    return take_off(dials, one, other)


def total(dials, several):
    """The total of a list of places."""
    check_dials(dials)
    check_several(dials, several)
    return add_up(dials, several)


def times(dials, place, number):
    """The place so many times, below 0 turned back."""
    check_dials(dials)
    check_place(dials, place)
    check_number(number)
    return multiply(dials, place, number)


def turn_of(dials, place):
    """The least number from 1 on, so many times which the place is nothing."""
    check_dials(dials)
    check_place(dials, place)
    number = 1
    while multiply(dials, place, number) != nothing_of(dials):
        number += 1
    return number


def halves(dials):
    """The ascending list of the places, but nothing, that are nothing two times."""
    check_dials(dials)
    return all_halves(dials)


def whole(dials):
    """The total of all places."""
    check_dials(dials)
    return add_up(dials, all_places(dials))
