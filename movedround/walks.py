"""Walks through all places, by unlike steps."""

from movedround.arithmetic import add, all_halves, nothing_of, opposite, place_count
from movedround.checks import check_at_most, check_dials, is_each_once
from movedround.errors import BadTour, BadWalk
from movedround.routing import all_routes, kinds_alone, list_steps
from movedround.shifts import renaming
from movedround.values import is_all_different


def is_touring(dials, thing):
    """Whether any value is a tour."""
    return is_each_once(dials, thing) and thing[0] == nothing_of(dials)


def is_walked(dials, thing):
    """Whether any value is a walk."""
    return is_touring(dials, thing) and is_all_different(list_steps(dials, thing))


def check_walk(dials, route):
    if not is_walked(dials, route):
        raise BadWalk("not a walk")


def is_tour(dials, thing):
    """Whether any value is a tour."""
    check_dials(dials)
    return is_touring(dials, thing)


def is_walk(dials, thing):
    """Whether any value is a walk."""
    check_dials(dials)
    return is_walked(dials, thing)


def steps(dials, tour):
    """The list of the steps of a tour, in their order."""
    check_dials(dials)
    if not is_touring(dials, tour):
        raise BadTour("not a tour")
    return list_steps(dials, tour)


def digits(dials, number):
    """The number modulo the first size, what is left of it modulo the second one, and so on."""
    found = []
    for size in dials:
        found.append(number % size)
        number = number // size
    return tuple(found)


def to_and_fro(dials, numerals):
    """The tour that has, by turns, nothing less each of the numerals and it plus one at each dial."""
    found = []
    for numeral in numerals:
        found.append(opposite(dials, numeral))
        found.append(add(dials, numeral, (1,) * len(dials)))
    return tuple(found[:place_count(dials)])


def with_power_first(dials):
    """The dials that are a power of two and odd sizes, and have a renaming from dials with just one half."""
    power = 1
    odd_sizes = []
    for size in dials:
        rest = size
        while rest % 2 == 0:
            rest = rest // 2
            power = power * 2
        if rest > 1:
            odd_sizes.append(rest)
    return (power,) + tuple(odd_sizes)


def find_walk(dials):
    """A walk, where there is just one half."""
    plain = with_power_first(dials)
    numerals = [(at % plain[0],) + digits(plain[1:], at) for at in range(place_count(dials) // 2)]
    name_of = {place: name for place, name in renaming(plain, dials)}
    return tuple([name_of[place] for place in to_and_fro(plain, numerals)])


def walk(dials):
    """A walk; None if there is none."""
    check_dials(dials)
    if len(all_halves(dials)) != 1:
        return None
    return find_walk(dials)


def walks(dials):
    """The ascending list of all walks."""
    check_dials(dials)
    check_at_most(dials, 8)
    return all_routes(dials, place_count(dials), kinds_alone(dials))
