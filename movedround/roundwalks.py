"""Round walks: through all places but one, and back, by all steps once each."""

from movedround.arithmetic import all_halves, all_places, nothing_of, place_count, take_off
from movedround.behind import goal_by_person
from movedround.checks import are_places, check_at_most, check_dealing, check_dials
from movedround.errors import BadIndex, BadRoundWalk, BadRoute
from movedround.routing import all_routes, first_route, kinds_alone, list_steps
from movedround.shifts import renaming
from movedround.swings import begun_at
from movedround.values import is_all_different, is_between, is_tuple_of
from movedround.walks import is_walked

# Found by a long search: round walks of dials with more than 16 places, which are counted from 0, ascending.
LONG_ONES = {
    (10, 2): (0, 1, 2, 4, 3, 6, 10, 5, 11, 9, 16, 8, 19, 13, 18, 14, 7, 17, 12),
    (12, 2): (0, 1, 2, 4, 3, 6, 10, 5, 11, 7, 14, 21, 15, 23, 12, 22, 19, 9, 18, 16, 8, 20, 13),
    (6, 2, 2): (0, 1, 2, 4, 3, 6, 9, 5, 7, 12, 16, 8, 17, 15, 21, 14, 22, 19, 10, 20, 11, 23, 13),
}


def is_walked_round(dials, thing):
    """Whether any value is a round walk."""
    if not is_tuple_of(thing, place_count(dials) - 1) or not are_places(dials, thing):
        return False
    nothing = nothing_of(dials)
    if not is_all_different(thing) or thing[0] != nothing:
        return False
    return sorted(list_steps(dials, thing + (nothing,))) == all_places(dials)[1:]


def check_round_walk(dials, route):
    if not is_walked_round(dials, route):
        raise BadRoundWalk("not a round walk")


def is_round_walk(dials, thing):
    """Whether any value is a round walk."""
    check_dials(dials)
    return is_walked_round(dials, thing)


def walk_one_dial(size):
    """A round walk of one dial of an odd size."""
    middle = size // 2
    out = [step if step % 2 == 0 else -step for step in range(1, middle + 1)]
    home = [-step if step % 2 == 0 else step for step in list(range(middle - 1, 0, -1)) + [middle]]
    at = 0
    found = [(0,)]
    # The last step leads back to nothing.
    for step in (out + home)[:-1]:
        at = (at + step) % size
        found.append((at,))
    return tuple(found)


def list_plain(dials):
    """The pairs of dials with a known round walk, and this walk, one of which has a renaming to the dials."""
    many = place_count(dials)
    if many % 2 == 1:
        return [((many,), walk_one_dial(many))]
    return [
        (plain, tuple([all_places(plain)[at] for at in LONG_ONES[plain]]))
        for plain in LONG_ONES
        if place_count(plain) == many
    ]


def find_round_walk(dials):
    """A round walk, where there is not just one half."""
    if place_count(dials) <= 16:
        return first_route(dials, place_count(dials) - 1, kinds_alone(dials))
    for plain, route in list_plain(dials):
        names = renaming(plain, dials)
        if names is not None:
            name_of = {place: name for place, name in names}
            return tuple([name_of[place] for place in route])
    return None


def round_walk(dials):
    """A round walk; None if there is none."""
    check_dials(dials)
    if len(all_halves(dials)) == 1:
        return None
    return find_round_walk(dials)


def round_walks(dials):
    """The ascending list of all round walks."""
    check_dials(dials)
    check_at_most(dials, 8)
    # All steps come to the total of all places: only if this is nothing does the last of them lead back.
    if len(all_halves(dials)) == 1:
        return []
    return all_routes(dials, place_count(dials) - 1, kinds_alone(dials))


def left_out(dials, walk):
    """The one place that is not in a round walk."""
    check_dials(dials)
    check_round_walk(dials, walk)
    return [place for place in all_places(dials) if place not in walk][0]


def rotated(dials, walk, index):
    """The places of a round walk from this index on, then those before it, each less the place at the index."""
    check_dials(dials)
    check_round_walk(dials, walk)
    if not is_between(index, 0, len(walk) - 1):
        raise BadIndex("not a number from 0 to n - 2")
    return begun_at(dials, walk[index:] + walk[:index])


def lead(dials, route):
    """The moves that bring each person of the route to the next place of it, the last one to nothing."""
    move_of = {place: nothing_of(dials) for place in all_places(dials)}
    for here, there in zip(route, route[1:] + route[:1]):
        move_of[here] = take_off(dials, there, here)
    return tuple([move_of[person] for person in all_places(dials)])


def led(dials, route):
    """The dealing that brings each person of a walk or a round walk to the next place, and the last one to nothing."""
    check_dials(dials)
    if not is_walked(dials, route) and not is_walked_round(dials, route):
        raise BadRoute("neither a walk nor a round walk")
    return lead(dials, route)


def route_of(dials, dealing):
    """The walk or round walk for which led tells this dealing; None if there is none."""
    check_dials(dials)
    check_dealing(dials, dealing)
    goal_of = goal_by_person(dials, dealing)
    route = [nothing_of(dials)]
    while goal_of[route[-1]] != nothing_of(dials):
        route.append(goal_of[route[-1]])
    found = tuple(route)
    if not is_walked(dials, found) and not is_walked_round(dials, found):
        return None
    return found if lead(dials, found) == dealing else None
