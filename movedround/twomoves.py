"""Seatings by two moves, and the trains that tell how many there are."""

from movedround.arithmetic import add, nothing_of, take_off
from movedround.checks import check_dials, is_place
from movedround.errors import BadNumber, BadStep
from movedround.following import list_rows
from movedround.fullrounds import check_two_moves
from movedround.lots import check_lot
from movedround.values import is_between


def list_trains(dials, lot, step):
    """The pair of the lists of the open and of the round trains."""
    goals = {person: add(dials, person, step) for person in lot}
    return list_rows(lot, {person: goals[person] for person in lot if goals[person] in lot})


def trains(dials, lot, step):
    """The pair of the lists of the open and of the round trains."""
    check_dials(dials)
    check_lot(dials, lot)
    if not is_place(dials, step) or step == nothing_of(dials):
        raise BadStep("not a place but nothing")
    return list_trains(dials, lot, step)


def check_number_of(lot, number):
    if not is_between(number, 0, len(lot)):
        raise BadNumber("not a number from 0 to that of the persons")


def with_train(ways, shares):
    """The numbers of ways by sum, when one of the shares comes to each sum."""
    found = [0] * len(ways)
    for at, many in enumerate(ways):
        for share in shares:
            if at + share < len(found):
                found[at + share] += many
    return found


def two_many(dials, lot, one, other, number):
    """How many seatings give one to so many persons and other to all others."""
    check_dials(dials)
    check_lot(dials, lot)
    check_two_moves(dials, one, other)
    check_number_of(lot, number)
    opened, closed = list_trains(dials, lot, take_off(dials, one, other))
    ways = [1] + [0] * len(lot)
    for train in opened:
        ways = with_train(ways, list(range(len(train) + 1)))
    for train in closed:
        ways = with_train(ways, [0, len(train)])
    return ways[number]


def choose_last(opened, closed, number):
    """So many persons, all or none of each round train, the last ones of open ones; None if that cannot be."""
    chosen = []
    # All round trains have as many persons: with as many of these as can be, the least is left to the open ones.
    for train in closed:
        if len(chosen) + len(train) <= number:
            chosen = chosen + list(train)
    for train in opened:
        share = min(len(train), number - len(chosen))
        chosen = chosen + list(train[len(train) - share:])
    return chosen if len(chosen) == number else None


def two_seating(dials, lot, one, other, number):
    """A seating that gives one to so many persons and other to all others; None if there is none."""
    check_dials(dials)
    check_lot(dials, lot)
    check_two_moves(dials, one, other)
    check_number_of(lot, number)
    opened, closed = list_trains(dials, lot, take_off(dials, one, other))
    chosen = choose_last(opened, closed, number)
    if chosen is None:
        return None
    return tuple([one if person in chosen else other for person in lot])
