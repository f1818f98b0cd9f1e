"""All who are free but one take moves, handed by one key."""

from movedround.arithmetic import take_off
from movedround.checks import is_place
from movedround.errors import BadHanding, BadKey, BadPerson
from movedround.hall import check_hall
from movedround.hands import pass_on
from movedround.values import is_listed, is_tuple_of


def check_key(hall, key):
    if not is_place(hall.dials, key):
        raise BadKey("not a place of the dials of the hall")


def are_two_of(dials, free, thing):
    """Whether any value is a pair of two different persons of those free."""
    if not is_tuple_of(thing, 2) or not all([is_place(dials, person) for person in thing]):
        return False
    return thing[0] in free and thing[1] in free and thing[0] != thing[1]


def follow_handing(hall, key, thing):
    """The pair of the list of those who take a move, each time, and who is left; None if the value is no handing."""
    if not is_listed(thing):
        return None
    free = hall.free()
    held = hall.held()
    takers = []
    for pair in thing:
        if not are_two_of(hall.dials, free, pair):
            return None
        move = take_off(hall.dials, take_off(hall.dials, key, pair[0]), pair[1])
        takes, held = pass_on(hall.dials, held, pair[0], pair[1], move)
        takers = takers + [person for person, _ in takes]
        free = [person for person in hall.here() if person not in held]
    if len(free) != 1:
        return None
    return takers, free[0]


def check_handing(hall, key, handing):
    if follow_handing(hall, key, handing) is None:
        raise BadHanding("not a handing by the key")


def is_handing(hall, key, thing):
    """Whether any value is a handing by the key."""
    check_hall(hall)
    check_key(hall, key)
    return follow_handing(hall, key, thing) is not None


def left_by(hall, key, handing):
    """Who is free behind the handing."""
    check_hall(hall)
    check_key(hall, key)
    check_handing(hall, key, handing)
    return follow_handing(hall, key, handing)[1]


def often(hall, key, handing):
    """The dict from those who take a move in the handing to how often they do."""
    check_hall(hall)
    check_key(hall, key)
    check_handing(hall, key, handing)
    takers = follow_handing(hall, key, handing)[0]
    return {person: takers.count(person) for person in sorted(takers)}


def free_chains(hall, key):
    """The chains for the key that begin with a free person."""
    free = hall.free()
    return [chain for chain in hall.chains(key)[0] if chain[0] in free]


def leavers(hall, key):
    """The ascending tuple of those whom some handing by the key leaves."""
    check_hall(hall)
    check_key(hall, key)
    if len(hall.free()) == 1:
        return tuple(hall.free())
    return tuple(sorted([chain[-1] for chain in free_chains(hall, key)]))


def join_all(chains):
    """A pair: the list of the pairs (first, second) that make one chain of these, and this chain.

    The one with fewer persons is second: so who takes a move again is in a chain twice as long then.
    """
    pairs = []
    left = list(chains)
    while len(left) > 1:
        shorter, longer = sorted(left[:2], key=len)
        pairs.append((longer[0], shorter[0]))
        left = [shorter[::-1] + longer] + left[2:]
    return pairs, left[0]


def find_handing(chains, person):
    """A handing that leaves the last person of one of these chains; None if the person is not the last one of any."""
    own = [chain for chain in chains if chain[-1] == person]
    if not own:
        return None
    pairs, joined = join_all([chain for chain in chains if chain[-1] != person])
    # The chain of the one who is to be left comes last, as second: only then its last person stays the last one.
    return pairs + [(joined[0], own[0][0])]


def handing(hall, key, person):
    """A handing by the key that leaves the person; None if there is none."""
    check_hall(hall)
    check_key(hall, key)
    if not is_place(hall.dials, person):
        raise BadPerson("not a place of the dials of the hall")
    if len(hall.free()) == 1:
        return [] if hall.free() == [person] else None
    return find_handing(free_chains(hall, key), person)
