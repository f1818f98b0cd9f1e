"""Trips by told moves, or the trees of cases that show that there are none."""

from movedround.arithmetic import add, add_up, left_over, nothing_of, place_count
from movedround.checks import are_places, check_dials, is_place
from movedround.errors import BadClosed, BadTold, TooMany
from movedround.shifts import parts
from movedround.values import is_all_different, is_ascending, is_rising


def are_steps(dials, thing):
    """Whether any value is a tuple of places but nothing."""
    return isinstance(thing, tuple) and are_places(dials, thing) and nothing_of(dials) not in thing


def check_told(dials, told):
    if not are_steps(dials, told) or not 1 <= len(told) <= place_count(dials) or not is_ascending(told):
        raise BadTold("not an ascending tuple of one to n moves but nothing")


def check_closed(dials, closed):
    if not are_steps(dials, closed) or not is_rising(closed):
        raise BadClosed("not an ascending tuple of different places but nothing")


def check_told_most(told, most):
    if len(told) > most:
        raise TooMany(most)


def is_taken(dials, told, closed, thing):
    """Whether any value is a trip."""
    if not isinstance(thing, tuple) or not are_places(dials, thing) or tuple(sorted(thing)) != told:
        return False
    met = []
    here = nothing_of(dials)
    for move in thing:
        here = add(dials, here, move)
        met.append(here)
    if here == nothing_of(dials):
        met.pop()
    return is_all_different(met) and not any([place == nothing_of(dials) or place in closed for place in met])


def is_trip(dials, told, closed, thing):
    """Whether any value is a trip."""
    check_dials(dials)
    check_told(dials, told)
    check_closed(dials, closed)
    return is_taken(dials, told, closed, thing)


def list_next(dials, left, here, barred):
    """The pairs (a move of those left that can be taken, the place to which it leads), ascending."""
    found = []
    for at, move in enumerate(left):
        goal = add(dials, here, move)
        is_home = len(left) == 1 and goal == nothing_of(dials)
        if move not in left[:at] and (is_home or goal not in barred):
            found.append((move, goal))
    return found


def trip_from(dials, left, here, barred):
    """A way to take all the moves that are left; None if there is none."""
    if not left:
        return ()
    for move, goal in list_next(dials, left, here, barred):
        rest = trip_from(dials, left_over(left, [move]), goal, barred + (goal,))
        if rest is not None:
            return (move,) + rest
    return None


def find_trip(dials, told, closed):
    """A trip; None if there is none."""
    nothing = nothing_of(dials)
    return trip_from(dials, list(told), nothing, closed + (nothing,))


def trip(dials, told, closed):
    """A trip; None if there is none."""
    check_dials(dials)
    check_told(dials, told)
    check_closed(dials, closed)
    check_told_most(told, 7)
    return find_trip(dials, told, closed)


def count_trips(dials, left, here, barred):
    """In how many ways all the moves that are left can be taken."""
    if not left:
        return 1
    many = 0
    for move, goal in list_next(dials, left, here, barred):
        many += count_trips(dials, left_over(left, [move]), goal, barred + (goal,))
    return many


def trips_many(dials, told, closed):
    """How many trips there are."""
    check_dials(dials)
    check_told(dials, told)
    check_closed(dials, closed)
    check_told_most(told, 7)
    nothing = nothing_of(dials)
    return count_trips(dials, list(told), nothing, closed + (nothing,))


def tree_from(dials, left, here, barred):
    """The tree of cases for the moves that are left."""
    return {
        move: tree_from(dials, left_over(left, [move]), goal, barred + (goal,))
        for move, goal in list_next(dials, left, here, barred)
    }


def find_tree(dials, told, closed):
    """The tree of cases; None if there is a trip."""
    if find_trip(dials, told, closed) is not None:
        return None
    nothing = nothing_of(dials)
    return tree_from(dials, list(told), nothing, closed + (nothing,))


def stuck_trip(dials, told, closed):
    """The tree of cases; None if there is a trip."""
    check_dials(dials)
    check_told(dials, told)
    check_closed(dials, closed)
    check_told_most(told, 6)
    return find_tree(dials, told, closed)


def is_this_tree(dials, tree, thing):
    """Whether any value is this tree of cases."""
    if not isinstance(thing, dict) or len(thing) != len(tree):
        return False
    if not all([is_place(dials, move) and move in tree for move in thing]):
        return False
    return all([is_this_tree(dials, tree[move], thing[move]) for move in thing])


def is_stuck_trip(dials, told, closed, thing):
    """Whether any value is the tree of cases, and there is no trip."""
    check_dials(dials)
    check_told(dials, told)
    check_closed(dials, closed)
    check_told_most(told, 6)
    tree = find_tree(dials, told, closed)
    return tree is not None and is_this_tree(dials, tree, thing)


def crowded(dials, told):
    """The first part that a trip by told moves would come to more often than its shifts let; None if there is none."""
    check_dials(dials)
    check_told(dials, told)
    # A trip that does not come back to nothing leaves one place more, which nothing leads to.
    more = 0 if add_up(dials, told) == nothing_of(dials) else 1
    for part in parts(dials):
        leaving = len([move for move in told if move not in part]) + more
        if len(part) * max(leaving, 1) < len(told) + more:
            return part
    return None
