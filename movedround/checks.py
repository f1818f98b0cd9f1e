"""Whether any value is what a parameter asks for, and the errors if it is not."""

from movedround.arithmetic import add, all_halves, columns_of, nothing_of, place_count, reached
from movedround.errors import BadDealing, BadDials, BadMove, BadMoves, BadNumber, BadPlace, BadRow
from movedround.errors import BadSeveral, BadSquare, BadUnlike, NotOneHalf, TooMany
from movedround.values import is_all_different, is_ascending, is_between, is_listed, is_rising, is_tuple_of


def is_dials(thing):
    if not isinstance(thing, tuple) or not 1 <= len(thing) <= 4:
        return False
    return all([is_between(size, 2, 24) for size in thing]) and place_count(thing) <= 24


def is_place(dials, thing):
    if not is_tuple_of(thing, len(dials)):
        return False
    return all([is_between(at, 0, size - 1) for at, size in zip(thing, dials)])


def are_places(dials, thing):
    """Whether it is a list of places."""
    return is_listed(thing) and all([is_place(dials, item) for item in thing])


def is_moves(dials, thing):
    """Whether it is a tuple with a move for each person."""
    return is_tuple_of(thing, place_count(dials)) and are_places(dials, thing)


def is_row_of_moves(dials, thing):
    return is_moves(dials, thing) and is_ascending(thing)


def is_each_once(dials, thing):
    """Whether it is a tuple with each place once."""
    return is_moves(dials, thing) and is_all_different(thing)


def is_dealt(dials, thing):
    """Whether it is a dealing."""
    return is_moves(dials, thing) and is_all_different(reached(dials, thing))


def is_dealt_unlike(dials, thing):
    return is_dealt(dials, thing) and is_all_different(thing)


def is_partly_dealt(dials, thing):
    """Whether it is a dict from some persons to moves."""
    if not isinstance(thing, dict):
        return False
    return are_places(dials, list(thing)) and are_places(dials, list(thing.values()))


def is_part_of_dials(dials, thing):
    if not isinstance(thing, tuple) or not are_places(dials, thing):
        return False
    if not is_rising(thing) or nothing_of(dials) not in thing:
        return False
    return all([add(dials, one, other) in thing for one in thing for other in thing])


def is_squared(dials, thing):
    """Whether it is a tuple of n lines with each place once, and with each place once in each column."""
    if not is_tuple_of(thing, place_count(dials)) or not all([is_each_once(dials, line) for line in thing]):
        return False
    return all([is_all_different(column) for column in columns_of(thing)])


def check_dials(dials):
    if not is_dials(dials):
        raise BadDials("not one to four sizes from 2 to 24, with a product of at most 24")


def check_place(dials, place):
    if not is_place(dials, place):
        raise BadPlace("not a place of the dials")


def check_move(dials, move):
    if not is_place(dials, move):
        raise BadMove("not a move of the dials")


def check_number(number):
    if not is_between(number, -999999999, 999999999):
        raise BadNumber("not a number from -999999999 to 999999999")


def check_several(dials, several):
    if not are_places(dials, several):
        raise BadSeveral("not a list of places")


def check_moves(dials, moves):
    if not is_moves(dials, moves):
        raise BadMoves("not a tuple with a move for each person")


def check_row(dials, row):
    if not is_row_of_moves(dials, row):
        raise BadRow("not an ascending tuple of as many moves as persons")


def check_dealing(dials, moves):
    if not is_dealt(dials, moves):
        raise BadDealing("not a dealing")


def check_unlike(dials, moves):
    if not is_dealt_unlike(dials, moves):
        raise BadUnlike("not an unlike dealing")


def check_square(dials, square):
    if not is_squared(dials, square):
        raise BadSquare("not a square of the dials")


def check_one_half(dials):
    if len(all_halves(dials)) != 1:
        raise NotOneHalf("there is not just one half")


def check_at_most(dials, most):
    if place_count(dials) > most:
        raise TooMany(most)
