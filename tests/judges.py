"""What a thing must be to be called so, told again from the document: nothing here is taken from the package."""

import collections
import functools
import itertools
import math

from tests.support import good_dealing, good_place, good_places, good_unlike, is_some_list, nothing
from tests.support import own_ends, own_halves, own_minus, own_places, own_plus, own_total


# ---- unlike dealings ----

def own_times(sizes, place, number):
    return tuple(at * number % size for at, size in zip(place, sizes))


def own_apart(sizes, one, other):
    return sorted(own_minus(sizes, a, b) for a, b in zip(one, other)) == own_places(sizes)


def good_bundle(sizes, thing):
    if type(thing) is not tuple or not all(good_unlike(sizes, moves) for moves in thing):
        return False
    return list(thing) == sorted(set(thing)) and all(
        own_apart(sizes, one, other) for one, other in itertools.combinations(thing, 2))


def good_straight(sizes, thing):
    if not good_unlike(sizes, thing):
        return False
    move_of = dict(zip(own_places(sizes), thing))
    return all(move_of[own_plus(sizes, x, y)] == own_plus(sizes, move_of[x], move_of[y])
               for x in move_of for y in move_of)


def good_both(sizes, thing):
    return good_unlike(sizes, thing) and own_apart(sizes, thing, tuple(own_places(sizes)))


def good_rounds(sizes, thing):
    if not is_some_list(thing) or not all(good_places(sizes, each) and len(each) > 0 for each in thing):
        return False
    return sorted(place for each in thing for place in each) == own_places(sizes)


def good_mutual(sizes, thing):
    if not good_unlike(sizes, thing):
        return False
    end_of = dict(zip(own_places(sizes), own_ends(sizes, thing)))
    return end_of[nothing(sizes)] == nothing(sizes) and all(end_of[end_of[x]] == x for x in end_of)


def own_changes(sizes, moves):
    """The pairs (x, y) of those who change places, x < y."""
    return [(x, y) for x, y in zip(own_places(sizes), own_ends(sizes, moves)) if x < y]


def good_strong(sizes, thing):
    if not good_mutual(sizes, thing):
        return False
    sums = [own_plus(sizes, x, y) for x, y in own_changes(sizes, thing)]
    return len(set(sums)) == len(sums) and nothing(sizes) not in sums


def good_meeting(sizes, thing):
    if type(thing) is not tuple or len(thing) != 4 or not all(good_place(sizes, item) for item in thing[:3]):
        return False
    return thing[3] is None or good_place(sizes, thing[3]) and thing[2] < thing[3]


def good_plan(sizes, thing):
    if not is_some_list(thing) or not all(good_meeting(sizes, each) for each in thing):
        return False
    persons = own_places(sizes) + [None]
    together = collections.Counter(frozenset((one, other)) for _, _, one, other in thing)
    on_days = collections.Counter((day, who) for day, _, one, other in thing for who in (one, other))
    in_rooms = collections.Counter((room, who) for _, room, one, other in thing for who in (one, other))
    at_once = collections.Counter((day, room) for day, room, _, _ in thing)
    return (all(together[frozenset(pair)] == 1 for pair in itertools.combinations(persons, 2))
            and all(on_days[(day, who)] == 1 for day in own_places(sizes) for who in persons)
            and all(in_rooms[(room, who)] == 1 for room in own_places(sizes) for who in persons)
            and all(many == 1 for many in at_once.values()))


# ---- walks ----

def own_steps(sizes, route):
    return [own_minus(sizes, there, here) for here, there in itertools.pairwise(route)]


def good_tour(sizes, thing):
    return (type(thing) is tuple and good_places(sizes, thing) and sorted(thing) == own_places(sizes)
            and thing[0] == nothing(sizes))


def good_walk(sizes, thing):
    return good_tour(sizes, thing) and len(set(own_steps(sizes, thing))) == len(thing) - 1


def good_fair(sizes, thing):
    if not good_tour(sizes, thing):
        return False
    steps = own_steps(sizes, thing)
    for x in own_places(sizes)[1:]:
        back = own_minus(sizes, nothing(sizes), x)
        if sum(step in (x, back) for step in steps) != (1 if x == back else 2):
            return False
    return True


def good_round_walk(sizes, thing):
    if type(thing) is not tuple or len(thing) != math.prod(sizes) - 1 or not good_places(sizes, thing):
        return False
    if len(set(thing)) != len(thing) or thing[0] != nothing(sizes):
        return False
    return sorted(own_steps(sizes, thing + thing[:1])) == own_places(sizes)[1:]


def own_walked_back(sizes, walk):
    return tuple(own_minus(sizes, place, walk[-1]) for place in reversed(walk))


def good_mirrored(sizes, thing):
    return good_walk(sizes, thing) and own_walked_back(sizes, thing) == thing


def all_tours(sizes):
    """All tours, ascending."""
    first, *rest = own_places(sizes)
    return [(first,) + order for order in itertools.permutations(rest)]


@functools.lru_cache(maxsize=None)
def own_walks(sizes):
    return [tour for tour in all_tours(sizes) if good_walk(sizes, tour)]


@functools.lru_cache(maxsize=None)
def own_fair_tours(sizes):
    return [tour for tour in all_tours(sizes) if good_fair(sizes, tour)]


@functools.lru_cache(maxsize=None)
def own_round_walks(sizes):
    first, *rest = own_places(sizes)
    return [(first,) + order for order in itertools.permutations(rest, len(rest) - 1)
            if good_round_walk(sizes, (first,) + order)]


def own_halved(sizes):
    return tuple(size // 2 if size % 2 == 0 else size for size in sizes if size != 2)


def own_halved_place(sizes, place):
    return tuple(at % (size // 2) if size % 2 == 0 else at for at, size in zip(place, sizes) if size != 2)


def own_led(sizes, route):
    goal_of = dict(zip(route, route[1:] + route[:1]))
    return tuple(own_minus(sizes, goal_of.get(x, x), x) for x in own_places(sizes))


# ---- trips ----

def good_told(sizes, thing):
    return (type(thing) is tuple and good_places(sizes, thing) and 1 <= len(thing) <= math.prod(sizes)
            and nothing(sizes) not in thing and list(thing) == sorted(thing))


def good_closed(sizes, thing):
    return (type(thing) is tuple and good_places(sizes, thing) and nothing(sizes) not in thing
            and list(thing) == sorted(set(thing)))


def is_way(sizes, told, closed, moves):
    """Whether these moves, in this order, are a trip."""
    met = [own_total(sizes, moves[:many]) for many in range(1, len(moves) + 1)]
    if own_total(sizes, told) == nothing(sizes):
        if met.pop() != nothing(sizes):
            return False
    return len(set(met)) == len(met) and not set(met) & {nothing(sizes), *closed}


def good_trip(sizes, told, closed, thing):
    return (type(thing) is tuple and good_places(sizes, thing) and sorted(thing) == list(told)
            and is_way(sizes, told, closed, thing))


def own_trips(sizes, told, closed):
    return [order for order in sorted(set(itertools.permutations(told))) if is_way(sizes, told, closed, order)]


def own_tree(sizes, told, closed, taken=()):
    """The dict of what can be taken next, behind the moves taken."""
    left = list((collections.Counter(told) - collections.Counter(taken)).elements())
    here = own_total(sizes, taken)
    met = [own_total(sizes, taken[:many]) for many in range(len(taken) + 1)]
    tree = {}
    for move in sorted(set(left)):
        goal = own_plus(sizes, here, move)
        if goal not in met and goal not in closed or len(left) == 1 and goal == nothing(sizes):
            tree[move] = own_tree(sizes, told, closed, taken + (move,))
    return tree


def good_stuck_trip(sizes, told, closed, thing):
    if own_trips(sizes, told, closed):
        return False

    def same_tree(tree, other):
        return (type(other) is dict and all(good_place(sizes, move) for move in other)
                and sorted(other) == list(tree) and all(same_tree(tree[move], other[move]) for move in tree))

    return same_tree(own_tree(sizes, told, closed), thing)


# ---- squares, tables, lots ----

def good_order(sizes, thing):
    return type(thing) is tuple and good_places(sizes, thing) and sorted(thing) == own_places(sizes)


def good_square(sizes, thing):
    if type(thing) is not tuple or len(thing) != math.prod(sizes) or not all(good_order(sizes, line) for line in thing):
        return False
    return all(sorted(column) == own_places(sizes) for column in zip(*thing))


def own_beside(lines):
    """How often each pair stands side by side."""
    return collections.Counter(pair for line in lines for pair in itertools.pairwise(line))


def good_neighbourly(sizes, thing):
    if not good_square(sizes, thing):
        return False
    across, down = own_beside(thing), own_beside(zip(*thing))
    return all(across[pair] == down[pair] == 1 for pair in itertools.permutations(own_places(sizes), 2))


def good_tables(sizes, thing):
    n = math.prod(sizes)
    if not is_some_list(thing) or len(thing) != n:
        return False
    for each in thing:
        if type(each) is not tuple or len(each) != n - 1 or not good_places(sizes, each) or len(set(each)) < n - 1:
            return False
    often = own_beside([each + each[:1] for each in thing])
    return all(often[pair] == 1 for pair in itertools.permutations(own_places(sizes), 2))


def good_lot(sizes, thing):
    return (type(thing) is tuple and len(thing) >= 1 and good_places(sizes, thing)
            and list(thing) == sorted(set(thing)))


def good_lot_moves(sizes, lot, thing):
    return type(thing) is tuple and len(thing) == len(lot) and good_places(sizes, thing)


def good_lot_row(sizes, lot, thing):
    return good_lot_moves(sizes, lot, thing) and list(thing) == sorted(thing)


def good_seating(sizes, lot, row, thing):
    if not good_lot_moves(sizes, lot, thing) or sorted(thing) != list(row):
        return False
    return len({own_plus(sizes, person, move) for person, move in zip(lot, thing)}) == len(lot)


def own_full_rounds(sizes, one, other):
    """All full rounds of two moves, by trying all."""
    places = own_places(sizes)
    found = []
    for moves in itertools.product(sorted((one, other)), repeat=len(places)):
        end_of = dict(zip(places, own_ends(sizes, moves)))
        here, many = places[0], 0
        while many == 0 or here != places[0] and many <= len(places):
            here, many = end_of[here], many + 1
        if many == len(places) and good_dealing(sizes, moves):
            found.append(moves)
    return found


def is_prime(number):
    return number > 1 and all(number % factor for factor in range(2, number))


def prime_power_of(number):
    """The prime of which the number is a power; None if there is none."""
    primes = [factor for factor in range(2, number + 1) if number % factor == 0 and is_prime(factor)]
    return primes[0] if len(primes) == 1 else None


def one_half(sizes):
    return len(own_halves(sizes)) == 1


def own_thirds(sizes):
    places = own_places(sizes)
    return [x for x in places[1:] if own_times(sizes, x, 3) == places[0]]


# ---- seatings ----

def own_seatings(sizes, lot, row):
    """All seatings, ascending: by trying all orders of the row, person by person."""
    found = []

    def go_on(moves, left, taken):
        if not left:
            found.append(tuple(moves))
        for move in sorted(set(left)):
            goal = own_plus(sizes, lot[len(moves)], move)
            if goal not in taken:
                rest = list(left)
                rest.remove(move)
                go_on(moves + [move], rest, taken | {goal})

    go_on([], list(row), frozenset())
    return found


def own_seatings_by_row(sizes, lot):
    """How many seatings each row has: by trying all moves for all persons."""
    many = collections.Counter()
    for moves in itertools.product(own_places(sizes), repeat=len(lot)):
        if len({own_plus(sizes, person, move) for person, move in zip(lot, moves)}) == len(lot):
            many[tuple(sorted(moves))] += 1
    return many


def good_all_but(sizes, lot, row, move, thing):
    if type(thing) is not tuple or len(thing) != 2 or type(thing[1]) is not tuple or len(thing[1]) != len(lot):
        return False
    person, moves = thing
    if person not in lot or moves[lot.index(person)] is not None:
        return False
    pairs = [(one, own) for one, own in zip(lot, moves) if one != person]
    if not good_places(sizes, [own for _, own in pairs]):
        return False
    ends = {own_plus(sizes, one, own) for one, own in pairs}
    return len(ends) == len(pairs) and sorted([own for _, own in pairs] + [move]) == list(row)


def good_stuck(sizes, lot, row, thing, taken=()):
    """Whether a value is a tree of cases, behind the pairs (person, move) taken."""
    left = collections.Counter(row) - collections.Counter(move for _, move in taken)
    waiting = [person for person in lot if person not in [one for one, _ in taken]]
    if type(thing) is not tuple or len(thing) != 2 or type(thing[1]) is not dict or not good_place(sizes, thing[0]):
        return False
    person, branches = thing
    if person not in waiting or not all(good_place(sizes, move) for move in branches):
        return False
    ends = [own_plus(sizes, *pair) for pair in taken]
    cases = [move for move in left if own_plus(sizes, person, move) not in ends]
    return sorted(cases) == sorted(branches) and all(
        good_stuck(sizes, lot, row, branches[move], taken + ((person, move),)) for move in branches)
