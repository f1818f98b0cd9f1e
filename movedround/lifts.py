"""Mirrored walks, and the fair tours of half the places that they come of."""

from movedround.arithmetic import add, all_halves, all_places, nothing_of, opposite, place_count, take_off
from movedround.checks import check_at_most, check_dials, check_place
from movedround.errors import BadFair, BadMirrored, NotOneHalf
from movedround.fairtours import all_fair, is_touring_fairly
from movedround.routing import kinds_by_twos, list_steps
from movedround.swings import walk_back
from movedround.walks import is_walked


def check_can_be_halved(dials):
    if len(all_halves(dials)) != 1 or place_count(dials) == 2:
        raise NotOneHalf("there is not just one half, or there are only two places")


def halve_size(size):
    return size // 2 if size % 2 == 0 else size


def halve(dials):
    """The dials with half the even size in its place, or without it if it is 2."""
    return tuple([halve_size(size) for size in dials if size != 2])


def halve_place(dials, place):
    """The number at the even size modulo half this size, or left out if it is 2."""
    return tuple([at % halve_size(size) for at, size in zip(place, dials) if size != 2])


def halved(dials):
    """The dials with half the even size in its place, or without it if it is 2."""
    check_dials(dials)
    check_can_be_halved(dials)
    return halve(dials)


def halved_place(dials, place):
    """The place of the halved dials that comes of a place."""
    check_dials(dials)
    check_can_be_halved(dials)
    check_place(dials, place)
    return halve_place(dials, place)


def is_mirrored_walk(dials, thing):
    """Whether any value is a walk that is its own walked_back."""
    return is_walked(dials, thing) and walk_back(dials, thing) == thing


def is_mirrored(dials, thing):
    """Whether any value is a walk that is its own walked_back."""
    check_dials(dials)
    return is_mirrored_walk(dials, thing)


def half_tour(dials, walk):
    """The tuple of the halved places of the first half of a mirrored walk."""
    check_dials(dials)
    check_can_be_halved(dials)
    if not is_mirrored_walk(dials, walk):
        raise BadMirrored("not a mirrored walk")
    return tuple([halve_place(dials, place) for place in walk[:len(walk) // 2]])


def is_step_left(dials, route, place):
    """Whether neither the step from the end of the route to the place nor nothing less it is among its steps."""
    step = take_off(dials, place, route[-1])
    taken = list_steps(dials, route)
    return step not in taken and opposite(dials, step) not in taken


def mirror(dials, begin):
    """The walk with this first half: the second one is its places backwards, plus the half."""
    half = all_halves(dials)[0]
    return begin + tuple([add(dials, place, half) for place in begin[::-1]])


def lifts(dials, tour):
    """The ascending list of all mirrored walks whose half tour is this fair tour."""
    check_dials(dials)
    check_can_be_halved(dials)
    if not is_touring_fairly(halve(dials), tour):
        raise BadFair("not a fair tour of the halved dials")
    begun = [(nothing_of(dials),)]
    for goal in tour[1:]:
        above = [place for place in all_places(dials) if halve_place(dials, place) == goal]
        begun = [begin + (place,) for begin in begun for place in above if is_step_left(dials, begin, place)]
    return [mirror(dials, begin) for begin in begun]


def mirrored_many(dials):
    """How many mirrored walks there are."""
    check_dials(dials)
    check_can_be_halved(dials)
    check_at_most(dials, 16)
    smaller = halve(dials)
    # Each fair tour has two lifts for each kind of its steps.
    kinds = [place for place, kind in kinds_by_twos(smaller).items() if place == kind]
    return (1 << len(kinds)) * len(all_fair(smaller))
