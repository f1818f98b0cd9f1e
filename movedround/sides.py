"""The six sides of an unlike dealing, and the dealings that are alike."""

from movedround.arithmetic import all_places, opposite, reached, take_off
from movedround.behind import send_on, shift
from movedround.checks import check_at_most, check_dials, check_unlike, is_dials
from movedround.errors import BadDials, BadOrder
from movedround.listing import list_dealings
from movedround.values import is_number, is_tuple_of

ORDERS = ((0, 1, 2), (0, 2, 1), (1, 0, 2), (1, 2, 0), (2, 0, 1), (2, 1, 0))


def list_triples(dials, moves):
    """The triples of a dealing that is known to be one."""
    backs = [opposite(dials, goal) for goal in reached(dials, moves)]
    return list(zip(all_places(dials), moves, backs))


def triples(dials, dealing):
    """The ascending list of the triples (person, move, back)."""
    check_dials(dials)
    check_unlike(dials, dealing)
    return list_triples(dials, dealing)


def turned_side(dials, moves, order):
    """Side, for an unlike dealing and an order that are known to be such."""
    move_of = {triple[order[0]]: triple[order[1]] for triple in list_triples(dials, moves)}
    return tuple([move_of[person] for person in all_places(dials)])


def is_order(thing):
    """Whether any value is a tuple that has 0, 1 and 2 once each."""
    return is_tuple_of(thing, 3) and all([is_number(at) for at in thing]) and thing in ORDERS


def side(dials, dealing, order):
    """The dealing in which, for each triple, the person and the move are those at the first two items of order."""
    check_dials(dials)
    check_unlike(dials, dealing)
    if not is_order(order):
        raise BadOrder("not a tuple that has 0, 1 and 2 once each")
    return turned_side(dials, dealing, order)


def beside(one, first, other, second):
    """The unlike dealing of one + other that has those of one and of other side by side."""
    check_dials(one)
    check_unlike(one, first)
    if not is_dials(other) or not is_dials(one + other):
        raise BadDials("other is not dials, or it is not beside one")
    check_unlike(other, second)
    return tuple([move + another for move in first for another in second])


def all_sides_shifted(dials, moves):
    """The sides of an unlike dealing, and all that comes of them by shifted."""
    sides = [turned_side(dials, moves, order) for order in ORDERS]
    return [shift(dials, each, place) for each in sides for place in all_places(dials)]


def are_alike(dials, one, other):
    """Whether one of two unlike dealings comes of the other."""
    check_dials(dials)
    check_unlike(dials, one)
    check_unlike(dials, other)
    for moves in all_sides_shifted(dials, one):
        # Only one place, sent on, can give the first person the move that other gives.
        if send_on(dials, moves, take_off(dials, other[0], moves[0])) == other:
            return True
    return False


def list_likes(dials, moves):
    """The likes of an unlike dealing that is known to be one."""
    shifted_sides = all_sides_shifted(dials, moves)
    found = {send_on(dials, each, place): True for each in shifted_sides for place in all_places(dials)}
    return sorted(found)


def likes(dials, dealing):
    """The ascending list of all that are alike this unlike dealing, itself among them."""
    check_dials(dials)
    check_unlike(dials, dealing)
    check_at_most(dials, 9)
    return list_likes(dials, dealing)


def kinds(dials):
    """The ascending list of the unlike dealings that are the first ones of their likes."""
    check_dials(dials)
    check_at_most(dials, 8)
    met = {}
    found = []
    for moves in list_dealings(dials, tuple(all_places(dials)), {}):
        if moves not in met:
            found.append(moves)
            for each in list_likes(dials, moves):
                met[each] = True
    return found
