"""How many dealings a row has, and all of them."""

from math import factorial

from movedround.arithmetic import add, all_places, nothing_of, place_count
from movedround.checks import check_at_most, check_dealing, check_dials, check_place, check_row, is_place
from movedround.errors import BadBegin, BadIndex, TooMany
from movedround.listing import list_dealings
from movedround.values import is_between


def arrangements(dials, row):
    """How many different tuples have just the moves of the row."""
    check_dials(dials)
    check_row(dials, row)
    many = factorial(len(row))
    for move in all_places(dials):
        many = many // factorial(row.count(move))
    return many


def dealings_many(dials, row):
    """How many dealings have this row."""
    check_dials(dials)
    check_row(dials, row)
    check_at_most(dials, 10)
    return len(list_dealings(dials, row, {}))


def is_begin(dials, thing):
    """Whether any value is a tuple of at most n moves."""
    if not isinstance(thing, tuple) or len(thing) > place_count(dials):
        return False
    return all([is_place(dials, move) for move in thing])


def beginning_many(dials, row, begin):
    """How many of the dealings with this row begin with these moves."""
    check_dials(dials)
    check_row(dials, row)
    if not is_begin(dials, begin):
        raise BadBegin("not a tuple of at most as many moves as persons")
    check_at_most(dials, 10)
    known = {person: move for person, move in zip(all_places(dials), begin)}
    return len(list_dealings(dials, row, known))


def all_dealings(dials, row):
    """The ascending list of all dealings with this row."""
    check_dials(dials)
    check_row(dials, row)
    check_at_most(dials, 10)
    found = list_dealings(dials, row, {})
    if len(found) > 300:
        raise TooMany(300)
    return found


def dealing_at(dials, row, index):
    """The dealing at this index of the ascending list of all with this row; None if there are not so many."""
    check_dials(dials)
    check_row(dials, row)
    if not is_between(index, 0, 999999999):
        raise BadIndex("not a number from 0 to 999999999")
    check_at_most(dials, 10)
    found = list_dealings(dials, row, {})
    if index < len(found):
        return found[index]
    return None


def index_of(dials, dealing):
    """The index of the dealing in the ascending list of all with its row."""
    check_dials(dials)
    check_dealing(dials, dealing)
    check_at_most(dials, 10)
    row = tuple(sorted(dealing))
    return list_dealings(dials, row, {}).index(dealing)


def with_one_more(dials, many, move):
    """The numbers by length and total, when the move may stand in a row as often as wanted, too."""
    found = [many[0]]
    for shorter in range(len(many) - 1):
        longer = {place: many[shorter + 1][place] for place in many[shorter + 1]}
        for place in found[shorter]:
            longer[add(dials, place, move)] += found[shorter][place]
        found.append(longer)
    return found


def rows_many(dials, place):
    """How many rows have this total."""
    check_dials(dials)
    check_place(dials, place)
    many = [{goal: 0 for goal in all_places(dials)} for _ in range(place_count(dials) + 1)]
    many[0][nothing_of(dials)] = 1
    for move in all_places(dials):
        many = with_one_more(dials, many, move)
    return many[-1][place]
