"""Fair tours: each step, taken either way, comes twice."""

from movedround.arithmetic import all_halves, place_count
from movedround.checks import check_at_most, check_dials
from movedround.routing import all_routes, count_each, first_route, kinds_by_twos, list_steps
from movedround.walks import digits, find_walk, is_touring, to_and_fro


def is_touring_fairly(dials, thing):
    """Whether any value is a fair tour."""
    if not is_touring(dials, thing):
        return False
    kind_of = kinds_by_twos(dials)
    return count_each([kind_of[step] for step in list_steps(dials, thing)]) == count_each(list(kind_of.values()))


def is_fair(dials, thing):
    """Whether any value is a fair tour."""
    check_dials(dials)
    return is_touring_fairly(dials, thing)


def all_fair(dials):
    """The ascending list of all fair tours."""
    return all_routes(dials, place_count(dials), kinds_by_twos(dials))


def fair_tour(dials):
    """A fair tour; None if there is none."""
    check_dials(dials)
    halves = all_halves(dials)
    if len(halves) == 1:
        return find_walk(dials)
    if not halves:
        return to_and_fro(dials, [digits(dials, number) for number in range(place_count(dials) // 2 + 1)])
    check_at_most(dials, 12)
    return first_route(dials, place_count(dials), kinds_by_twos(dials))


def fair_tours(dials):
    """The ascending list of all fair tours."""
    check_dials(dials)
    check_at_most(dials, 7)
    return all_fair(dials)


def fair_many(dials):
    """How many fair tours there are."""
    check_dials(dials)
    check_at_most(dials, 8)
    return len(all_fair(dials))
