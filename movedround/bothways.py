"""Unlike dealings that go both ways."""

from movedround.arithmetic import add, all_halves, all_places, opposite, take_off
from movedround.checks import check_at_most, check_dials, is_dealt_unlike
from movedround.errors import BadBoth
from movedround.listing import list_dealings
from movedround.straight import multiply_all
from movedround.values import is_all_different


def is_backward(dials, moves):
    """Whether the moves less the own places are all different."""
    return is_all_different([take_off(dials, move, person) for person, move in zip(all_places(dials), moves)])


def goes_both(dials, thing):
    """Whether any value is an unlike dealing that goes both ways."""
    return is_dealt_unlike(dials, thing) and is_backward(dials, thing)


def is_both(dials, thing):
    """Whether any value is an unlike dealing that goes both ways."""
    check_dials(dials)
    return goes_both(dials, thing)


def all_thirds(dials):
    """The places, but nothing, that are nothing three times."""
    return [place for place in all_places(dials) if add(dials, place, place) == opposite(dials, place)][1:]


def thirds(dials):
    """The ascending list of the places, but nothing, that are nothing three times."""
    check_dials(dials)
    return all_thirds(dials)


def list_choices(dials):
    """For each person the list of the triples (move, the place plus the move, the move less the place)."""
    moves = all_places(dials)
    return [[(move, add(dials, person, move), take_off(dials, move, person)) for move in moves] for person in moves]


def chosen_from(choices, taken):
    """The triples taken, with one of each of the choices behind them, no item twice; None if there are none.

    taken is a triple of tuples: the moves, the sums, the differences.
    """
    if not choices:
        return taken
    moves, sums, differences = taken
    for move, goal, difference in choices[0]:
        if move not in moves and goal not in sums and difference not in differences:
            longer = (moves + (move,), sums + (goal,), differences + (difference,))
            found = chosen_from(choices[1:], longer)
            if found is not None:
                return found
    return None


def both(dials):
    """A dealing both ways; None if there is none."""
    check_dials(dials)
    if len(all_halves(dials)) == 1 or len(all_thirds(dials)) == 2:
        return None
    doubled = multiply_all(dials, 2)
    if goes_both(dials, doubled):
        return doubled
    return chosen_from(list_choices(dials), ((), (), ()))[0]


def boths(dials):
    """The ascending list of all dealings both ways."""
    check_dials(dials)
    check_at_most(dials, 9)
    found = list_dealings(dials, tuple(all_places(dials)), {})
    return [moves for moves in found if is_backward(dials, moves)]


def quarter(dials, dealing):
    """The dealing in which the person at the move of x has the move nothing less x."""
    check_dials(dials)
    if not goes_both(dials, dealing):
        raise BadBoth("not a dealing both ways")
    turned = {move: opposite(dials, person) for person, move in zip(all_places(dials), dealing)}
    return tuple([turned[person] for person in all_places(dials)])
