"""Like judges, for groups: what members come to, and what shades, orders, mixings and parts are."""

import functools
import itertools
import random

from movedround.groups import Group
from tests.support import good_dials, good_place, is_num, is_some_list, nothing, own_places, own_plus


def good_table(thing):
    if type(thing) is not tuple or not 2 <= len(thing) <= 12:
        return False
    n = len(thing)
    for line in thing:
        if type(line) is not tuple or len(line) != n or not all(is_num(at) for at in line):
            return False
        if sorted(line) != list(range(n)):
            return False
    if any(thing[0][b] != b for b in range(n)) or any(thing[a][0] != a for a in range(n)):
        return False
    return all(thing[thing[a][b]][c] == thing[a][thing[b][c]] for a, b, c in itertools.product(range(n), repeat=3))


def good_member(group, thing):
    return is_num(thing) and 0 <= thing < len(group.table)


def good_members(group, thing):
    return is_some_list(thing) and all(good_member(group, item) for item in thing)


def own_after(table, several):
    return functools.reduce(lambda one, other: table[one][other], several, 0)


def own_back(table, member):
    return next(other for other in range(len(table)) if table[member][other] == 0)


def own_turns(table, member):
    return next(number for number in itertools.count(1) if own_after(table, [member] * number) == 0)


def own_commutes(table):
    return all(table[a][b] == table[b][a] for a, b in itertools.combinations(range(len(table)), 2))


def own_part_from(table, several):
    found = {0}
    while True:
        more = found | {table[a][b] for a in found for b in several}
        if more == found:
            return tuple(sorted(found))
        found = more


def own_mixed(table):
    return own_part_from(table, [own_after(table, [own_back(table, a), own_back(table, b), a, b])
                                 for a, b in itertools.product(range(len(table)), repeat=2)])


def good_shade(group, thing):
    table = group.table
    n = len(table)
    if type(thing) is not tuple or len(thing) != 2 or not good_dials(thing[0]):
        return False
    sizes, names = thing
    if type(names) is not tuple or len(names) != n or not all(good_place(sizes, name) for name in names):
        return False
    if any(names[table[a][b]] != own_plus(sizes, names[a], names[b]) for a in range(n) for b in range(n)):
        return False
    mixed = own_mixed(table)
    return set(names) == set(own_places(sizes)) and all(
        (names[a] == nothing(sizes)) == (a in mixed) for a in range(n))


def good_each_once(group, thing):
    return (type(thing) is tuple and len(thing) == len(group.table) and all(is_num(item) for item in thing)
            and sorted(thing) == list(range(len(group.table))))


def good_order_to(group, member, thing):
    return good_each_once(group, thing) and own_after(group.table, thing) == member


def good_mixing(group, thing):
    if not good_each_once(group, thing):
        return False
    return len({group.table[a][partner] for a, partner in enumerate(thing)}) == len(thing)


def good_group_row(group, thing):
    return (type(thing) is tuple and len(thing) == len(group.table) and good_members(group, thing)
            and list(thing) == sorted(thing))


def good_group_dealing(group, row, thing):
    return (type(thing) is tuple and sorted(thing) == list(row)
            and len({group.table[a][move] for a, move in enumerate(thing)}) == len(row))


def good_two_sided(group, thing):
    if type(thing) is not tuple or not good_members(group, thing) or list(thing) != sorted(set(thing)):
        return False
    table = group.table
    return own_part_from(table, thing) == thing and all(
        {table[a][b] for b in thing} == {table[b][a] for b in thing} for a in range(len(table)))


def own_sides(group, part):
    """The dict from the names of the sides to their members."""
    sides = {frozenset(group.table[a][b] for b in part) for a in range(len(group.table))}
    return {min(side): side for side in sides}


def good_matching(thing, names):
    return (type(thing) is dict and all(is_num(item) for pair in thing.items() for item in pair)
            and sorted(thing) == sorted(names) == sorted(thing.values()))


def good_inner(group, part, thing):
    return good_matching(thing, part) and sorted(group.table[a][thing[a]] for a in thing) == sorted(part)


def good_outer(group, part, thing):
    sides = own_sides(group, part)
    if not good_matching(thing, list(sides)):
        return False
    met = {name for name in sides for a in thing if group.table[a][thing[a]] in sides[name]}
    return len(met) == len(sides)


def all_inner(group, part):
    for order in itertools.permutations(part):
        if good_inner(group, part, dict(zip(part, order))):
            yield dict(zip(part, order))


def all_outer(group, part):
    names = sorted(own_sides(group, part))
    for order in itertools.permutations(names):
        if good_outer(group, part, dict(zip(names, order))):
            yield dict(zip(names, order))


def own_mixings(group):
    """All mixings, ascending: member by member, each partner that is left."""
    table = group.table
    found = []

    def go_on(partners, goals):
        if len(partners) == len(table):
            found.append(tuple(partners))
            return
        for other in range(len(table)):
            goal = table[len(partners)][other]
            if other not in partners and goal not in goals:
                go_on(partners + [other], goals | {goal})

    go_on([], frozenset())
    return found


# ---- groups made here ----

def table_of_orders(several):
    """The table of tuples of corners, closed and ascending: one and then other."""
    several = sorted(several)
    return tuple(tuple(several.index(tuple(other[at] for at in one)) for other in several) for one in several)


def orders_from(turnings):
    found = {tuple(range(len(turnings[0])))}
    while True:
        more = found | {tuple(other[at] for at in one) for one in found for other in turnings}
        if more == found:
            return sorted(found)
        found = more


def table_of_dials(sizes):
    places = own_places(sizes)
    return tuple(tuple(places.index(own_plus(sizes, one, other)) for other in places) for one in places)


def table_of_polygon(sides):
    """By what becomes of each corner."""
    own = [tuple((corner + a) % sides for corner in range(sides)) for a in range(sides)]
    own += [tuple((a - corner) % sides for corner in range(sides)) for a in range(sides)]
    return tuple(tuple(own.index(tuple(other[at] for at in one)) for other in own) for one in own)


def renumbered(table, draw):
    """The table with other numbers for the members, but for 0."""
    order = [0] + draw.sample(range(1, len(table)), len(table) - 1)
    where = {member: at for at, member in enumerate(order)}
    return tuple(tuple(where[table[one][other]] for other in order) for one in order)


# Each one turns four things, and two of them behind one another: eight members, six of which turn four times.
FOURFOLD = [(1, 2, 3, 0, 5, 6, 7, 4), (4, 7, 6, 5, 2, 1, 0, 3)]
TWELVEFOLD = [(1, 2, 0, 3), (1, 0, 3, 2)]
DOUBLED = [(1, 2, 0, 3, 4, 5, 6), (1, 0, 2, 4, 5, 6, 3)]


@functools.lru_cache(maxsize=None)
def all_tables():
    """The table of each group with at most 12 members, as it is and renumbered."""
    sizes = [(n,) for n in range(2, 13)] + [(2, 2), (2, 4), (2, 2, 2), (3, 3), (2, 6)]
    found = [table_of_dials(each) for each in sizes] + [table_of_polygon(sides) for sides in (3, 4, 5, 6)]
    found += [table_of_orders(orders_from(several)) for several in (FOURFOLD, TWELVEFOLD, DOUBLED)]
    draw = random.Random(700)
    return tuple(found + [renumbered(table, draw) for table in found])


def all_groups(most=12):
    return [Group(table) for table in all_tables() if len(table) <= most]
