"""What the tests share: a count of their own, values of all kinds, and calls that are looked at closely."""

import copy
import functools
import itertools
import math
import unittest

from movedround.errors import BadDials, MoveError, TooMany
from movedround.groups import Group
from movedround.hall import Hall


# ---- a count of the tests' own: nothing here is taken from the package ----

def is_num(thing):
    return type(thing) is int


def is_some_list(thing):
    return type(thing) in (list, tuple)


def good_dials(thing):
    return (type(thing) is tuple and 1 <= len(thing) <= 4
            and all(is_num(size) and 2 <= size <= 24 for size in thing) and math.prod(thing) <= 24)


def all_dials(most):
    """All dials with at most so many places."""
    return [dials for length in range(1, 5) for dials in itertools.product(range(2, most + 1), repeat=length)
            if math.prod(dials) <= most]


def own_places(dials):
    return list(itertools.product(*[range(size) for size in dials]))


def own_plus(dials, *several):
    return tuple(sum(numbers) % size for size, *numbers in zip(dials, *several)) if several else nothing(dials)


def own_minus(dials, one, other):
    return tuple((a - b) % size for a, b, size in zip(one, other, dials))


def nothing(dials):
    return tuple(0 for _ in dials)


def good_place(dials, thing):
    return (type(thing) is tuple and len(thing) == len(dials)
            and all(is_num(at) and 0 <= at < size for at, size in zip(thing, dials)))


def good_places(dials, thing):
    return is_some_list(thing) and all(good_place(dials, place) for place in thing)


def good_moves(dials, thing):
    return type(thing) is tuple and len(thing) == math.prod(dials) and good_places(dials, thing)


def good_row(dials, thing):
    return good_moves(dials, thing) and list(thing) == sorted(thing)


def own_ends(dials, moves):
    return [own_plus(dials, person, move) for person, move in zip(own_places(dials), moves)]


def good_dealing(dials, thing):
    return good_moves(dials, thing) and sorted(own_ends(dials, thing)) == own_places(dials)


def good_unlike(dials, thing):
    return good_dealing(dials, thing) and sorted(thing) == own_places(dials)


def good_known(dials, thing):
    return type(thing) is dict and good_places(dials, list(thing)) and good_places(dials, list(thing.values()))


def good_begun(dials, thing):
    return good_known(dials, thing) and len({own_plus(dials, *pair) for pair in thing.items()}) == len(thing)


def good_part(dials, thing):
    if type(thing) is not tuple or not good_places(dials, thing) or list(thing) != sorted(set(thing)):
        return False
    sums = {own_plus(dials, one, other) for one in thing for other in thing}
    return nothing(dials) in thing and sums == set(thing)


def good_renaming(one, other, thing):
    if not is_some_list(thing) or not all(type(pair) is tuple and len(pair) == 2 for pair in thing):
        return False
    if not all(good_place(one, pair[0]) and good_place(other, pair[1]) for pair in thing):
        return False
    names = dict(thing)
    if [pair[0] for pair in thing] != own_places(one) or sorted(names.values()) != own_places(other):
        return False
    return all(names[own_plus(one, x, y)] == own_plus(other, names[x], names[y]) for x in names for y in names)


def good_weighing(dials, thing):
    if type(thing) is not tuple or len(thing) != 2 or not is_num(thing[0]) or not 2 <= thing[0] <= 24:
        return False
    modulus, weights = thing
    if type(weights) is not tuple or len(weights) != math.prod(dials):
        return False
    if not all(is_num(weight) and 0 <= weight < modulus for weight in weights):
        return False
    weigh = dict(zip(own_places(dials), weights))
    return all(weigh[own_plus(dials, x, y)] == (weigh[x] + weigh[y]) % modulus for x in weigh for y in weigh)


def own_halves(dials):
    return [x for x in own_places(dials) if x != nothing(dials) and own_plus(dials, x, x) == nothing(dials)]


def own_total(dials, several):
    return own_plus(dials, nothing(dials), *several)


def all_rows(dials):
    return list(itertools.combinations_with_replacement(own_places(dials), math.prod(dials)))


@functools.lru_cache(maxsize=None)
def dealings_by_row(dials):
    """The dict from each row that has a dealing to all of them, ascending: by trying all orders of the ends."""
    found = {}
    places = own_places(dials)
    for goals in itertools.permutations(places):
        moves = tuple(own_minus(dials, goal, person) for person, goal in zip(places, goals))
        found.setdefault(tuple(sorted(moves)), []).append(moves)
    return {row: sorted(found[row]) for row in sorted(found)}


def dealings_of(dials, row):
    return dealings_by_row(dials).get(row, [])


@functools.lru_cache(maxsize=None)
def own_unlike(dials):
    """All unlike dealings, ascending: person by person, each move that is left."""
    places = own_places(dials)
    found = []

    def go_on(moves, goals):
        if len(moves) == len(places):
            found.append(tuple(moves))
            return
        for move in places:
            goal = own_plus(dials, places[len(moves)], move)
            if move not in moves and goal not in goals:
                go_on(moves + [move], goals | {goal})

    go_on([], frozenset())
    return found


def is_even_order(items):
    return sum(one > other for one, other in itertools.combinations(items, 2)) % 2 == 0


def drawn_dealing(draw, dials):
    """A dealing by ends in an order that is drawn."""
    places = own_places(dials)
    goals = draw.sample(places, len(places))
    return tuple(own_minus(dials, goal, person) for person, goal in zip(places, goals))


def drawn_row(draw, dials, goal=None):
    """A row that is drawn, with this total."""
    places = own_places(dials)
    moves = [draw.choice(places) for _ in places[1:]]
    if goal is None:
        return tuple(sorted(moves + [draw.choice(places)]))
    return tuple(sorted(moves + [own_minus(dials, goal, own_total(dials, moves))]))


def fewest(starts, steps_of):
    """The dict from each thing reached to the least number of steps to it."""
    many = {start: 0 for start in starts}
    queue = list(starts)
    for thing in queue:
        for following in steps_of(thing):
            if following not in many:
                many[following] = many[thing] + 1
                queue.append(following)
    return many


# Rows of (10,) with just 300 dealings, of (9,) with 306, 2025 dealings, and of (10,) with many more than 300.
ROW_300 = tuple((at,) for at in (0, 0, 0, 1, 1, 2, 6, 6, 7, 7))
ROW_306 = tuple((at,) for at in (0, 0, 1, 1, 2, 3, 6, 6, 8))
MANY9 = tuple((at,) for at in range(9))
MANY10 = tuple((at,) for at in (1, 2, 3, 4, 5, 5, 6, 7, 8, 9))


# ---- values of all kinds ----

def deep(levels, wrap, inner=0):
    for _ in range(levels):
        inner = wrap(inner)
    return inner


def anything():
    """Values of all the kinds that a caller may pass, made anew each time."""
    return [
        0, 1, -1, 2, 3, 24, 25, 999999999, -999999999, 1000000000, 10 ** 30, True, False, None, "", "0", "(0,)", "None",
        [], (), {}, [0], [True], [None], (0,), (1,), (2,), (-1,), (True,), (False,), (None,), ("0",), (0, 0), (0, 1),
        (2, 2), (1, 2, 3), (2, 2, 2, 2), (2, 2, 2, 2, 2), [(0,)], [(0,), (1,)], [(True,)], [[0]], ((0,),),
        ((0,), (1,)), ((0,), (0,)), ((1,), (0,)), ((True,), (False,)), ([0], [1]), (((0,),), ((0,),)), [((0,), (0,))],
        [((0,), (0,)), ((1,), (1,))], [((0,), (1,)), ((1,), (0,))], [[((0,), (0,))]], (2, (0, 0)), (2, (0, 1)),
        (2, (False, True)), [2, (0, 1)], (2, [0, 1]), {(0,): (0,)}, {(0,): (1,)}, {(1,): (0,), (0,): (1,)}, {0: 0},
        {(True,): (0,)}, {(0,): (False,)}, {"0": None}, {None: []}, {(0,): [0]}, {"a": {"b": [{}]}},
        deep(80, lambda x: [x]), deep(80, lambda x: (x,)), deep(80, lambda x: {0: x}), deep(79, lambda x: [x], (0,)),
        deep(79, lambda x: (x,), {}), MoveError("a text"), TooMany(10), BadDials("(2,)"), [MoveError("x")],
        (TooMany(None),), {0: TooMany([])}, Group(((0, 1), (1, 0))), (Group(((0, 1), (1, 0))),), ((0, 1), (1, 0)),
        ((2,), ((0,), (1,))), ((0,), {}), ((0,), {(0,): ((0,), {})}), Hall((2,)), [Hall((2, 3))], "dials 2",
    ]


STRANGE = (True, False, None, -1, 0, 1, 25, "0", (), [], {}, (True,), (0, 0), ((0,),))


def changed_items(items):
    """The lists of these items with one of them left out, doubled, exchanged or replaced."""
    yield items[:-1]
    yield items[1:]
    yield items + items[-1:]
    yield items[:1] + items
    yield items[::-1]
    yield items + [0]
    yield items[1:] + items[:1]
    for at in sorted({0, len(items) // 2, len(items) - 1} if items else ()):
        for strange in STRANGE:
            yield items[:at] + [strange] + items[at + 1:]
        for inner in near_misses(items[at]):
            yield items[:at] + [inner] + items[at + 1:]
        for other in range(0, len(items), max(1, len(items) // 3)):
            yield items[:at] + [items[other]] + items[at + 1:]


def near_misses(value):
    """Values that are nearly this one."""
    if type(value) is int:
        yield from (value + 1, value - 1, -value, str(value), [value], (value,), None)
        if value in (0, 1):
            yield bool(value)
    elif is_some_list(value):
        yield list(value)
        yield tuple(value)
        yield dict(enumerate(value))
        for items in changed_items(list(value)):
            yield type(value)(items)
    elif type(value) is dict:
        yield list(value.items())
        yield list(value)
        for items in changed_items(list(value.items())):
            try:
                yield dict(items)
            except (TypeError, ValueError):
                continue


# ---- calls that are looked at closely ----

def same(one, other):
    """Whether two values are equal and of the same kinds at every depth, dicts in the same order."""
    if type(one) is not type(other):
        return False
    if type(one) in (list, tuple):
        return len(one) == len(other) and all(same(x, y) for x, y in zip(one, other))
    if type(one) is dict:
        return same(list(one.items()), list(other.items()))
    if type(one) is Hall:
        return one == other and one.log() == other.log()
    return one is other if isinstance(one, MoveError) else one == other


def held_lists(value):
    """The lists and dicts in a value, at every depth."""
    if type(value) in (list, tuple):
        inner = list(value)
    elif type(value) is dict:
        inner = list(value) + list(value.values())
    else:
        inner = []
    found = [value] if type(value) in (list, dict) else []
    for item in inner:
        found += held_lists(item)
    return found


def is_plain(value):
    """Whether a value is made of numbers, bools, None, strings, lists, tuples, dicts with ascending keys, objects."""
    if type(value) is Group:
        return is_plain(value.table)
    if type(value) is Hall:
        return is_plain([value.dials, value.log()])
    if type(value) in (list, tuple):
        return all(is_plain(item) for item in value)
    if type(value) is dict:
        return list(value) == sorted(value) and all(is_plain(item) for pair in value.items() for item in pair)
    return value is None or type(value) in (int, bool, str)


def copied(value):
    """A copy at every depth, in which errors of the package stay the same ones."""
    if type(value) in (list, tuple):
        return type(value)(copied(item) for item in value)
    if type(value) is dict:
        return {copied(key): copied(value[key]) for key in value}
    if type(value) is Hall:
        return value.copy()
    return value if isinstance(value, MoveError) else copy.copy(value)


def with_tuples(value):
    """The value with a tuple in the place of the list that it is."""
    return tuple(value) if type(value) is list else value


class Case(unittest.TestCase):
    """Calls by position and by name, with a look at what is passed and at what is returned."""

    def told(self, function, /, **arguments):
        """What the function returns for arguments by name, and just so by position."""
        before = copied(arguments)
        result = function(*arguments.values())
        again = function(**arguments)
        self.assertTrue(same(before, arguments), f"{function.__name__} changed what it was passed")
        self.assertTrue(same(result, again), f"{function.__name__}: {result!r}, then {again!r}")
        self.assertTrue(is_plain(result), f"{function.__name__}: {result!r}")
        seen = {id(item) for item in held_lists(again)} | {id(item) for item in held_lists(list(arguments.values()))}
        lists = held_lists(result)
        self.assertFalse([item for item in lists if id(item) in seen], f"{function.__name__} returns no new lists")
        self.assertEqual(len(lists), len({id(item) for item in lists}), f"{function.__name__} returns one list twice")
        return result

    def refused(self, error, function, /, **arguments):
        """The error, by position and by name; it is of just this class."""
        before = copied(arguments)
        for call in (lambda: function(*arguments.values()), lambda: function(**arguments)):
            try:
                result = call()
            except MoveError as caught:
                self.assertIs(type(caught), error, f"{function.__name__}{arguments!r}"[:400])
                last = caught
            else:
                self.fail(f"{function.__name__}{arguments!r} returned {result!r}, not {error.__name__}"[:600])
        self.assertTrue(same(before, arguments), f"{function.__name__} changed what it was passed")
        return last

    def too_many(self, most, function, /, **arguments):
        self.assertEqual(self.refused(TooMany, function, **arguments).most, most)
