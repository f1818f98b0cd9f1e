"""Seatings by two moves, and the trains that tell how many there are."""

from movedround.arithmetic import add, nothing_of, take_off
from movedround.checks import check_dials, is_place
from movedround.errors import BadNumber, BadStep
from movedround.fullrounds import check_two_moves
from movedround.lots import check_lot
from movedround.values import is_between


def train_from(dials, lot, step, person):
    """The persons of the lot from this one on, each at the place of the one before plus step, none twice."""
    train = [person]
    following = add(dials, person, step)
    while following in lot and following != person:
        train.append(following)
        following = add(dials, following, step)
    return tuple(train)


def list_trains(dials, lot, step):
    """The pair of the lists of the open and of the round trains."""
    firsts = [person for person in lot if take_off(dials, person, step) not in lot]
    opened = [train_from(dials, lot, step, person) for person in firsts]
    met = [person for train in opened for person in train]
    closed = []
    for person in lot:
        if person not in met:
            train = train_from(dials, lot, step, person)
            closed.append(train)
            met = met + list(train)
    return opened, closed


def trains(dials, lot, step):
    """The pair of the lists of the open and of the round trains."""
    check_dials(dials)
    check_lot(dials, lot)
    if not is_place(dials, step) or step == nothing_of(dials):
        raise BadStep("not a place but nothing")
    return list_trains(dials, lot, step)


def check_number_of(lot, number):
    if not is_between(number, 0, len(lot)):
        raise BadNumber("not a number from 0 to that of the persons")


def with_train(ways, shares):
    """The numbers of ways by sum, when one of the shares comes to each sum."""
    found = [0] * len(ways)
    for at, many in enumerate(ways):
        for share in shares:
            if at + share < len(found):
                found[at + share] += many
    return found


def two_many(dials, lot, one, other, number):
    """How many seatings give one to so many persons and other to all others."""
    check_dials(dials)
    check_lot(dials, lot)
    check_two_moves(dials, one, other)
    check_number_of(lot, number)
    opened, closed = list_trains(dials, lot, take_off(dials, one, other))
    ways = [1] + [0] * len(lot)
    for train in opened:
        ways = with_train(ways, list(range(len(train) + 1)))
    for train in closed:
        ways = with_train(ways, [0, len(train)])
    return ways[number]


def choose_last(opened, closed, number):
    """So many persons, all or none of each round train, the last ones of open ones; None if that cannot be."""
    chosen = []
    # All round trains have as many persons: with as many of these as can be, the least is left to the open ones.
    for train in closed:
        if len(chosen) + len(train) <= number:
            chosen = chosen + list(train)
    for train in opened:
        share = min(len(train), number - len(chosen))
        chosen = chosen + list(train[len(train) - share:])
    return chosen if len(chosen) == number else None


def two_seating(dials, lot, one, other, number):
    """A seating that gives one to so many persons and other to all others; None if there is none."""
    check_dials(dials)
    check_lot(dials, lot)
    check_two_moves(dials, one, other)
    check_number_of(lot, number)
    opened, closed = list_trains(dials, lot, take_off(dials, one, other))
    chosen = choose_last(opened, closed, number)
    if chosen is None:
        return None
    return tuple([one if person in chosen else other for person in lot])
