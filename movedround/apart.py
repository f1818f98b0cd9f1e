"""Unlike dealings that are apart from one another, and bundles of them."""

from movedround.arithmetic import all_places, moves_to, nothing_of, place_count, reached, take_off
from movedround.behind import turn_back
from movedround.checks import check_at_most, check_dials, check_unlike, is_dealt_unlike
from movedround.errors import BadBundle, NotIn
from movedround.listing import list_dealings
from movedround.straight import multiply_all
from movedround.values import is_all_different, is_rising


def differences(dials, one, other):
    """The places that come of the moves of one less those of other, person by person."""
    return [take_off(dials, move, another) for move, another in zip(one, other)]


def is_apart(dials, one, other):
    return is_all_different(differences(dials, one, other))


def are_apart(dials, one, other):
    """Whether two unlike dealings are apart."""
    check_dials(dials)
    check_unlike(dials, one)
    check_unlike(dials, other)
    return is_apart(dials, one, other)


def move_onward(dials, one, other):
    """Onward, for two unlike dealings that are known to be such."""
    further = {end: goal for end, goal in zip(reached(dials, one), reached(dials, other))}
    return moves_to(dials, [further[person] for person in all_places(dials)])


def onward(dials, one, other):
    """The dealing in which the person at the end of x by one has the move of x in other less that in one."""
    check_dials(dials)
    check_unlike(dials, one)
    check_unlike(dials, other)
    return move_onward(dials, one, other)


def is_bundled(dials, thing):
    """Whether any value is a bundle."""
    if not isinstance(thing, tuple) or not all([is_dealt_unlike(dials, moves) for moves in thing]):
        return False
    if not is_rising(thing):
        return False
    return all([is_apart(dials, one, other) for at, one in enumerate(thing) for other in thing[at + 1:]])


def check_bundle(dials, bundle):
    if not is_bundled(dials, bundle):
        raise BadBundle("not an ascending tuple of unlike dealings, each two of them apart")


def is_bundle(dials, thing):
    """Whether any value is a bundle."""
    check_dials(dials)
    return is_bundled(dials, thing)


def rebundled(dials, bundle, dealing):
    """The bundle of undone of the dealing, and of onward from it to each other one of the bundle."""
    check_dials(dials)
    check_bundle(dials, bundle)
    if not is_dealt_unlike(dials, dealing) or dealing not in bundle:
        raise NotIn("not one of the dealings of the bundle")
    others = [move_onward(dials, dealing, other) for other in bundle if other != dealing]
    return tuple(sorted([turn_back(dials, dealing)] + others))


def are_apart_from(dials, found, moves):
    """Those of the dealings found that are apart from this one."""
    return [each for each in found if is_apart(dials, each, moves)]


def joins(dials, bundle):
    """The ascending list of the unlike dealings that are apart from all of the bundle."""
    check_dials(dials)
    check_bundle(dials, bundle)
    check_at_most(dials, 8)
    found = list_dealings(dials, tuple(all_places(dials)), {})
    for moves in bundle:
        found = are_apart_from(dials, found, moves)
    return found


def widest(dials, bundle, candidates, best):
    """The widest of best and of what comes of the bundle and candidates, which are apart from all of it."""
    if len(bundle) > len(best):
        best = bundle
    for at, moves in enumerate(candidates):
        # A bundle has at most n - 2 dealings.
        if len(best) >= min(place_count(dials) - 2, len(bundle) + len(candidates) - at):
            return best
        later = are_apart_from(dials, candidates[at + 1:], moves)
        best = widest(dials, bundle + (moves,), later, best)
    return best


def greatest(dials):
    """A pair: the greatest number of dealings of a bundle, and a bundle with so many."""
    check_dials(dials)
    check_at_most(dials, 8)
    nothing = nothing_of(dials)
    # Sent on by any place a dealing is apart from the same ones: so nothing may have the move nothing in all.
    candidates = list_dealings(dials, tuple(all_places(dials)), {nothing: nothing})
    bundle = widest(dials, (), candidates, ())
    return len(bundle), bundle


def multiples(dials):
    """The bundle of multiplied by each number from 1 to p - 2, p the least prime factor of the number of places."""
    check_dials(dials)
    least_prime = 2
    while place_count(dials) % least_prime != 0:
        least_prime += 1
    return tuple([multiply_all(dials, number) for number in range(1, least_prime - 1)])
