"""Changes of few persons, from one dealing of a row to another one."""

from movedround.arithmetic import all_places, place_count
from movedround.checks import check_dealing, check_dials, check_row, is_dealt
from movedround.errors import BadDealing, BadMost
from movedround.manydealings import all_dealings
from movedround.values import is_between, is_listed, is_rising


def check_most(dials, most):
    if not is_between(most, 0, place_count(dials)):
        raise BadMost("not a number from 0 to that of the persons")


def count_unlike(one, other):
    """For how many persons two dealings differ."""
    return len([move for move, another in zip(one, other) if move != another])


def near_ones(found, moves, most):
    """Those of the dealings found that differ from this one, but for at most so many persons."""
    return [each for each in found if 1 <= count_unlike(each, moves) <= most]


def differ(dials, one, other):
    """The ascending list of the persons who have another move in other."""
    check_dials(dials)
    check_dealing(dials, one)
    check_dealing(dials, other)
    return [person for person, move, another in zip(all_places(dials), one, other) if move != another]


def changes(dials, dealing, most):
    """The ascending list of the other dealings of its row that differ from it for at most so many persons."""
    check_dials(dials)
    check_dealing(dials, dealing)
    check_most(dials, most)
    return near_ones(all_dealings(dials, tuple(sorted(dealing))), dealing, most)


def steps_from(found, moves, most):
    """The dict from each dealing to which a path leads from this one to the dealing before it on a shortest one."""
    before = {moves: None}
    queue = [moves]
    at = 0
    while at < len(queue):
        here = queue[at]
        nearby = near_ones(found, here, most)
        for each in nearby:
            if each not in before:
                before[each] = here
                queue.append(each)
        at += 1
    return before


def path(dials, one, other, most):
    """A list of dealings, as short as possible, from one to other by changes; None if there is none."""
    check_dials(dials)
    check_dealing(dials, one)
    if not is_dealt(dials, other) or sorted(one) != sorted(other):
        raise BadDealing("other is not a dealing with the row of one")
    check_most(dials, most)
    before = steps_from(all_dealings(dials, tuple(sorted(one))), one, most)
    if other not in before:
        return None
    backwards = [other]
    while backwards[-1] != one:
        backwards.append(before[backwards[-1]])
    return backwards[::-1]


def pool(dials, dealing, most):
    """The ascending list of the dealings to which a path leads from this one."""
    check_dials(dials)
    check_dealing(dials, dealing)
    check_most(dials, most)
    return sorted(steps_from(all_dealings(dials, tuple(sorted(dealing))), dealing, most))


def is_pool(dials, row, most, thing):
    """Whether any value is a pool of the row."""
    check_dials(dials)
    check_row(dials, row)
    check_most(dials, most)
    found = all_dealings(dials, row)
    if not is_listed(thing) or not thing:
        return False
    if not all([is_dealt(dials, moves) and moves in found for moves in thing]) or not is_rising(thing):
        return False
    return all([each in thing for moves in thing for each in near_ones(found, moves, most)])


def least_most(dials, row):
    """The least most with which paths lead from each dealing of the row to each other one."""
    found = all_dealings(dials, row)
    if not found:
        return 0
    # Prim: each dealing is brought in by the fewest persons that can bring in any one more.
    needed = {moves: count_unlike(moves, found[0]) for moves in found[1:]}
    most = 0
    while needed:
        nearest = min([(needed[moves], moves) for moves in needed])
        most = max(most, nearest[0])
        needed = {
            moves: min(needed[moves], count_unlike(moves, nearest[1])) for moves in needed if moves != nearest[1]
        }
    return most
