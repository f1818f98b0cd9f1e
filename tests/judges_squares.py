"""Like judges, for squares, cuts and partings."""

import itertools

from tests.judges import good_order, good_square, own_apart
from tests.support import is_some_list, own_minus, own_places, own_plus, own_total, own_unlike


def own_square(sizes):
    return tuple(tuple(own_plus(sizes, x, y) for y in own_places(sizes)) for x in own_places(sizes))


def own_surplus(sizes, square):
    places = own_places(sizes)
    return tuple(tuple(own_minus(sizes, cell, own_plus(sizes, x, y)) for y, cell in zip(places, line))
                 for x, line in zip(places, square))


def cells(sizes, square, columns):
    """The places in the cells of these columns, line by line."""
    return [line[own_places(sizes).index(column)] for line, column in zip(square, columns)]


def good_cut(sizes, square, thing):
    return good_order(sizes, thing) and sorted(cells(sizes, square, thing)) == own_places(sizes)


def own_cuts(sizes, square):
    return [columns for columns in itertools.permutations(own_places(sizes)) if good_cut(sizes, square, columns)]


def good_parting(sizes, square, thing):
    if not is_some_list(thing) or len(thing) != len(own_places(sizes)):
        return False
    if not all(good_cut(sizes, square, each) for each in thing) or list(thing) != sorted(thing):
        return False
    return len({cell for each in thing for cell in enumerate(each)}) == len(thing) ** 2


def own_mates(one, other):
    pairs = [pair for line, another in zip(one, other) for pair in zip(line, another)]
    return len(set(pairs)) == len(pairs)


def own_ring(sizes, square, one, other, column):
    """The least lot of columns with this one in which both lines have the same places: by trying all, fewest first."""
    places = own_places(sizes)
    lines = dict(zip(places, square))
    rest = [at for at, place in enumerate(places) if place != column]
    start = places.index(column)
    for many in range(len(rest) + 1):
        for chosen in itertools.combinations(rest, many):
            ring = [start, *chosen]
            if {lines[one][at] for at in ring} == {lines[other][at] for at in ring}:
                return sorted(places[at] for at in ring)
    return None


def drawn_square(draw, sizes, switches=6):
    """A square by lines, columns and places in an order that is drawn, and by exchanges of cells of two lines."""
    places = own_places(sizes)
    lines, columns, names = [draw.sample(places, len(places)) for _ in range(3)]
    name_of = dict(zip(places, names))
    square = [[name_of[own_plus(sizes, x, y)] for y in columns] for x in lines]
    for _ in range(switches):
        one, other = draw.sample(square, 2)
        at = draw.randrange(len(places))
        first = one[at]
        while True:
            one[at], other[at] = other[at], one[at]
            if one[at] == first:
                break
            again = [k for k, place in enumerate(one) if place == one[at] and k != at]
            if not again:
                break
            at = again[0]
    square = tuple(map(tuple, square))
    assert good_square(sizes, square)
    return square


def own_bundles(sizes, draw, most):
    """Some bundles that are drawn."""
    found = [()]
    for _ in range(most):
        bundle = []
        for moves in draw.sample(own_unlike(sizes), min(40, len(own_unlike(sizes)))):
            if all(own_apart(sizes, moves, other) for other in bundle):
                bundle.append(moves)
        found.append(tuple(sorted(bundle)))
    return found


def total_at(sizes, square, columns):
    return own_total(sizes, cells(sizes, square, columns))
