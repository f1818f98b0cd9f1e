"""Weighings, and those that bar unlike dealings."""

from movedround.arithmetic import add, all_places, place_count
from movedround.checks import check_dials, check_several
from movedround.errors import BadModulus, BadWeighing
from movedround.values import is_between, is_tuple_of


def adds_up(dials, modulus, weights):
    """Whether the weight of the sum of any two places is the sum of their weights."""
    weight_of = {place: weight for place, weight in zip(all_places(dials), weights)}
    for one in weight_of:
        for other in weight_of:
            if weight_of[add(dials, one, other)] != (weight_of[one] + weight_of[other]) % modulus:
                return False
    return True


def is_weighed_by(dials, thing):
    """Whether any value is a weighing of the dials."""
    if not is_tuple_of(thing, 2) or not is_between(thing[0], 2, 24):
        return False
    modulus, weights = thing
    if not is_tuple_of(weights, place_count(dials)):
        return False
    if not all([is_between(weight, 0, modulus - 1) for weight in weights]):
        return False
    return adds_up(dials, modulus, weights)


def is_weighing(dials, thing):
    """Whether any value is a weighing."""
    check_dials(dials)
    return is_weighed_by(dials, thing)


def weight_by(modulus, by_dial, place):
    """The weight of a place, when each dial turned on by one weighs what by_dial tells."""
    return sum([at * weight for at, weight in zip(place, by_dial)]) % modulus


def list_weighings(dials, modulus):
    """The ascending list of all weighings with this modulus."""
    choices = [()]
    for size in dials:
        choices = [begin + (weight,) for begin in choices for weight in range(modulus) if size * weight % modulus == 0]
    found = []
    for by_dial in choices:
        weights = tuple([weight_by(modulus, by_dial, place) for place in all_places(dials)])
        found.append((modulus, weights))
    return sorted(found)


def weighings(dials, modulus):
    """The ascending list of all weighings with this modulus."""
    check_dials(dials)
    if not is_between(modulus, 2, 24):
        raise BadModulus("not a number from 2 to 24")
    return list_weighings(dials, modulus)


def weighed(dials, weighing, several):
    """The sum of the weights of a list of places, modulo the modulus."""
    check_dials(dials)
    if not is_weighed_by(dials, weighing):
        raise BadWeighing("not a weighing of the dials")
    check_several(dials, several)
    modulus, weights = weighing
    weight_of = {place: weight for place, weight in zip(all_places(dials), weights)}
    return sum([weight_of[place] for place in several]) % modulus


def plain_bar(dials):
    """The first weighing with which the weights of all places together are no multiple of the modulus."""
    check_dials(dials)
    for modulus in range(2, 25):
        for weighing in list_weighings(dials, modulus):
            if sum(weighing[1]) % modulus != 0:
                return weighing
    return None


def square_bar(dials):
    """The first weighing with which the squares of all weights together are no multiple of the modulus."""
    check_dials(dials)
    for modulus in range(2, 25):
        for weighing in list_weighings(dials, modulus):
            if sum([weight * weight for weight in weighing[1]]) % modulus != 0:
                return weighing
    return None
