"""Walks that come of a walk."""

from movedround.arithmetic import opposite, take_off
from movedround.checks import check_dials
from movedround.errors import BadNames
from movedround.routing import list_steps
from movedround.shifts import is_renaming
from movedround.walks import check_walk


def begun_at(dials, route):
    """The places of a route, each less the first one."""
    return tuple([take_off(dials, place, route[0]) for place in route])


def walk_back(dials, route):
    """The places from the last one to the first, each less the last one."""
    return begun_at(dials, route[::-1])


def walked_back(dials, walk):
    """The places of the walk from the last one to the first, each less the last one."""
    check_dials(dials)
    check_walk(dials, walk)
    return walk_back(dials, walk)


def turned_about(dials, walk):
    """Nothing less each of the places of the walk."""
    check_dials(dials)
    check_walk(dials, walk)
    return tuple([opposite(dials, place) for place in walk])


def swung(dials, walk):
    """The places behind the step that is the half, and then those ahead of it, each less the first of them."""
    check_dials(dials)
    check_walk(dials, walk)
    half = walk[-1]
    at = list_steps(dials, walk).index(half) + 1
    return begun_at(dials, walk[at:] + walk[:at])


def renamed_walk(dials, other, names, walk):
    """The walk of the names of the places of walk, in their order."""
    check_dials(dials)
    check_dials(other)
    if not is_renaming(dials, other, names):
        raise BadNames("not a renaming from the dials to the other ones")
    check_walk(dials, walk)
    name_of = {place: name for place, name in names}
    return tuple([name_of[place] for place in walk])
