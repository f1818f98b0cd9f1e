"""Trees of cases, which show that a row has no seating."""

from movedround.arithmetic import add, left_over
from movedround.checks import check_dials, is_place
from movedround.lots import check_lot, check_lot_row
from movedround.seatings import check_lot_most, find_seating
from movedround.values import is_tuple_of


def goals_left(dials, person, left, taken):
    """The ascending dict from the moves left that bring the person to an end that nobody has to this end."""
    goals = {move: add(dials, person, move) for move in left}
    return {move: goals[move] for move in goals if goals[move] not in taken}


def tree_of(dials, waiting, left, taken):
    """A tree of cases for the persons waiting and the moves left; there is no seating of these."""
    # The person with the fewest moves to try makes the smallest tree.
    person = min(waiting, key=lambda one: len(goals_left(dials, one, left, taken)))
    goals = goals_left(dials, person, left, taken)
    others = left_over(waiting, [person])
    return person, {
        move: tree_of(dials, others, left_over(left, [move]), taken + (goals[move],))
        for move in goals
    }


def stuck(dials, lot, row):
    """A tree of cases; None if there is a seating."""
    check_dials(dials)
    check_lot(dials, lot)
    check_lot_row(dials, lot, row)
    check_lot_most(lot, 6)
    if find_seating(dials, lot, row) is not None:
        return None
    return tree_of(dials, list(lot), row, ())


def is_tree(dials, waiting, left, taken, thing):
    """Whether any value is a tree of cases for the persons waiting and the moves left."""
    if not is_tuple_of(thing, 2) or not is_place(dials, thing[0]) or thing[0] not in waiting:
        return False
    person, branches = thing
    goals = goals_left(dials, person, left, taken)
    if not isinstance(branches, dict) or len(branches) != len(goals):
        return False
    if not all([is_place(dials, move) and move in goals for move in branches]):
        return False
    others = left_over(waiting, [person])
    return all([
        is_tree(dials, others, left_over(left, [move]), taken + (goals[move],), branches[move])
        for move in branches
    ])


def is_stuck(dials, lot, row, thing):
    """Whether any value is a tree of cases for the row."""
    check_dials(dials)
    check_lot(dials, lot)
    check_lot_row(dials, lot, row)
    check_lot_most(lot, 6)
    # A tree has no case in which all moves are used up, as nobody is left for its next pair: so it shows by itself
    # that there is no seating.
    return is_tree(dials, list(lot), row, (), thing)
