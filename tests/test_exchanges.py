"""Promise 34: from row to row by exchanges, splits, and dealings that are led along."""

import collections
import itertools
import random

from movedround import errors
from movedround.exchanges import exchange_path, is_exchange, is_split, leads, split
from movedround.passing import exchanged
from tests.support import Case, all_dials, all_rows, anything, dealings_by_row, dealings_of, drawn_dealing, drawn_row
from tests.support import fewest, good_dealing, good_place, good_row, is_some_list, near_misses, nothing, own_minus
from tests.support import own_places, own_plus, own_total

ONE4 = ((0,), (0,), (1,), (3,))
OTHER4 = ((0,), (0,), (2,), (2,))


def own_exchanges(sizes, row):
    """All rows that come of a row by an exchange: any two moves, by any two with the same total."""
    found = set()
    for at, other in itertools.combinations(range(len(row)), 2):
        rest = [move for k, move in enumerate(row) if k not in (at, other)]
        for move in own_places(sizes):
            last = own_minus(sizes, own_plus(sizes, row[at], row[other]), move)
            found.add(tuple(sorted(rest + [move, last])))
    return found


def good_tuple(sizes, thing):
    return (type(thing) is tuple and len(thing) >= 1 and all(good_place(sizes, move) for move in thing)
            and sorted(thing) == list(thing))


def good_split(sizes, one, other, thing):
    if not is_some_list(thing) or not all(type(pair) is tuple and len(pair) == 2 for pair in thing):
        return False
    if not all(good_tuple(sizes, moves) for pair in thing for moves in pair):
        return False
    if not all(len(some) == len(others) for some, others in thing):
        return False
    if not all(own_total(sizes, some) == own_total(sizes, others) for some, others in thing):
        return False
    return (sorted(itertools.chain(*[some for some, _ in thing])) == list(one)
            and sorted(itertools.chain(*[others for _, others in thing])) == list(other))


def most_pairs(sizes, one, other):
    """The greatest number of pairs of a split, by taking each pair that has the first move out of the rows."""
    if not one:
        return 0
    best = 0
    for many in range(1, len(one) + 1):
        for some in {(one[0],) + rest for rest in itertools.combinations(one[1:], many - 1)}:
            for others in set(itertools.combinations(other, many)):
                if own_total(sizes, some) == own_total(sizes, others):
                    left = collections.Counter(one) - collections.Counter(some)
                    other_left = collections.Counter(other) - collections.Counter(others)
                    told = most_pairs(sizes, sorted(left.elements()), sorted(other_left.elements()))
                    if told or not other_left:
                        best = max(best, told + 1)
    return best


class Exchange(Case):

    def test_is_exchange_by_trying(self):
        for sizes in ((2,), (3,), (4,), (2, 2)):
            for row in all_rows(sizes):
                own = own_exchanges(sizes, row)
                for thing in all_rows(sizes):
                    self.assertIs(self.told(is_exchange, dials=sizes, row=row, thing=thing), thing in own)
                self.assertIs(is_exchange(sizes, row, row), True)

    def test_any_value_is_judged_as_described(self):
        for sizes, row in (((4,), ONE4), ((2,), ((0,), (1,))), ((2, 2), ((0, 0), (0, 1), (1, 0), (1, 1)))):
            own = own_exchanges(sizes, row)
            for thing in anything() + list(near_misses(row)) + list(near_misses(min(own))):
                good = good_row(sizes, thing) and thing in own
                self.assertIs(self.told(is_exchange, dials=sizes, row=row, thing=thing), good, thing)
        self.assertIs(self.told(is_exchange, dials=(4,), row=ONE4, thing=OTHER4), True)
        self.assertIs(self.told(is_exchange, dials=(4,), row=ONE4, thing=list(OTHER4)), False)
        self.assertIs(self.told(is_exchange, dials=(4,), row=ONE4, thing=((False,), (0,), (2,), (2,))), False)
        self.assertIs(self.told(is_exchange, dials=(4,), row=ONE4, thing=((0,), (1,), (1,), (1,))), False)
        draw = random.Random(70)
        for sizes in all_dials(24):
            row = drawn_row(draw, sizes)
            for thing in (min(own_exchanges(sizes, row)), drawn_row(draw, sizes, own_total(sizes, row))):
                own = thing in own_exchanges(sizes, row)
                self.assertIs(self.told(is_exchange, dials=sizes, row=row, thing=thing), own)


class Paths(Case):

    def look_at(self, sizes, one, other, least):
        """One pair of rows with the same total, from which other is so many exchanges away."""
        found = self.told(exchange_path, dials=sizes, one=one, other=other)
        self.assertEqual((found[0], found[-1], len(found)), (one, other, least + 1))
        for row, following in zip(found, found[1:]):
            self.assertIs(is_exchange(sizes, row, following), True)
        pairs = self.told(split, dials=sizes, one=one, other=other)
        self.assertTrue(good_split(sizes, one, other, pairs), (sizes, one, other, pairs))
        self.assertIs(self.told(is_split, dials=sizes, one=one, other=other, thing=pairs), True)
        self.assertEqual(len(pairs), len(one) - least)

    def test_example_by_hand(self):
        pairs = [(((0,),), ((0,),)), (((0,),), ((0,),)), (((1,), (3,)), ((2,), (2,)))]
        self.assertIs(self.told(is_split, dials=(4,), one=ONE4, other=OTHER4, thing=pairs), True)
        self.assertEqual(len(self.told(split, dials=(4,), one=ONE4, other=OTHER4)), 3)
        self.assertEqual(self.told(exchange_path, dials=(4,), one=ONE4, other=OTHER4), [ONE4, OTHER4])

    def test_all_rows_of_few_places_against_a_search(self):
        for sizes in ((2,), (3,), (4,), (2, 2), (5,)):
            rows = all_rows(sizes)
            for one in rows:
                least = fewest([one], lambda row: own_exchanges(sizes, row))
                for other in rows:
                    if own_total(sizes, one) == own_total(sizes, other):
                        self.look_at(sizes, one, other, least[other])
                    else:
                        self.assertNotIn(other, least)
                        self.assertIsNone(self.told(exchange_path, dials=sizes, one=one, other=other))
                        self.assertIsNone(self.told(split, dials=sizes, one=one, other=other))

    def test_some_rows_of_more_places_against_a_search(self):
        draw = random.Random(71)
        for sizes in ((6,), (2, 3), (7,), (8,), (2, 4), (2, 2, 2)):
            for one in (drawn_row(draw, sizes), (nothing(sizes),) * len(own_places(sizes)), tuple(own_places(sizes))):
                least = fewest([one], lambda row: own_exchanges(sizes, row))
                far = max(least.values())
                others = [row for row in least if least[row] == far]
                for other in draw.sample(sorted(least), 12) + draw.sample(others, min(4, len(others))):
                    self.look_at(sizes, one, other, least[other])

    def test_most_pairs_by_trying(self):
        draw = random.Random(72)
        for sizes in ((4,), (5,), (6,), (2, 3), (7,)):
            for _ in range(6):
                one = drawn_row(draw, sizes)
                other = drawn_row(draw, sizes, own_total(sizes, one))
                self.assertEqual(len(split(sizes, one, other)), most_pairs(sizes, one, other))

    def test_edges(self):
        for sizes in all_dials(8):
            row = tuple(own_places(sizes))
            self.look_at(sizes, row, row, 0)
        for sizes in ((9,), (3, 3), (24,)):
            row = tuple(own_places(sizes))
            self.too_many(8, exchange_path, dials=sizes, one=row, other=row)
            self.too_many(8, split, dials=sizes, one=row, other=row)
            # Two rows with unlike totals are too many as well.
            self.too_many(8, split, dials=sizes, one=row[:1] + row[:-1], other=row)
            self.too_many(8, exchange_path, dials=sizes, one=row[:1] + row[:-1], other=row)
            self.refused(errors.BadRow, split, dials=sizes, one=row, other=row[::-1])
            thing = [((move,), (move,)) for move in row]
            self.assertIs(self.told(is_split, dials=sizes, one=row, other=row, thing=thing), True)


class Splits(Case):

    def test_any_value_is_judged_as_described(self):
        whole4 = [(ONE4, OTHER4)]
        cases = [((4,), ONE4, OTHER4, split((4,), ONE4, OTHER4)), ((4,), ONE4, OTHER4, whole4),
                 ((4,), ONE4, ONE4, [((move,), (move,)) for move in ONE4]),
                 ((2,), ((0,), (0,)), ((1,), (1,)), [(((0,), (0,)), ((1,), (1,)))]),
                 ((2,), ((0,), (0,)), ((0,), (1,)), [(((0,), (0,)), ((0,), (1,)))]),
                 ((2, 2), ((0, 0), (0, 0), (0, 1), (0, 1)), ((0, 0), (0, 0), (1, 0), (1, 0)),
                  [(((0, 0),), ((0, 0),)), (((0, 0), (0, 1), (0, 1)), ((0, 0), (1, 0), (1, 0)))])]
        for sizes, one, other, valid in cases:
            for thing in anything() + [valid, tuple(valid), valid[::-1], valid + valid] + list(near_misses(valid)):
                judged = self.told(is_split, dials=sizes, one=one, other=other, thing=thing)
                self.assertIs(judged, good_split(sizes, one, other, thing), (sizes, one, other, thing))

    def test_edges(self):
        judged = [
            ([(ONE4, OTHER4)], True), (((ONE4, OTHER4),), True), ([], False), ([(OTHER4, ONE4)], False),
            ([(((0,),), ((0,),)), (((0,), (1,), (3,)), ((0,), (2,), (2,)))], True),
            ([(((0,), (1,), (3,)), ((0,), (2,), (2,))), (((0,),), ((0,),))], True),
            ([(((0,),), ((0,),)), (((0,), (3,), (1,)), ((0,), (2,), (2,)))], False),
            ([((), ()), (ONE4, OTHER4)], False), ([[ONE4, OTHER4]], False), ([(list(ONE4), OTHER4)], False),
            ([(ONE4, OTHER4, ())], False), ([(((False,), (0,), (1,), (3,)), OTHER4)], False),
            ([(((0,),), ((0,),)), (((0,),), ((2,),)), (((1,), (3,)), ((0,), (2,)))], False),
            ([(((0,), (0,)), ((0,),)), (((1,), (3,)), ((0,), (2,), (2,)))], False),
            ([(((0,),), ((0,),)), (((1,), (3,)), ((2,), (2,)))], False),
        ]
        for thing, good in judged:
            self.assertIs(self.told(is_split, dials=(4,), one=ONE4, other=OTHER4, thing=thing), good, thing)


class Leads(Case):

    def look_at(self, sizes, moves, row):
        found = self.told(leads, dials=sizes, dealing=moves, row=row)
        if own_total(sizes, row) != nothing(sizes):
            self.assertIsNone(found)
            return 0
        for one, other, move in found:
            moves = exchanged(sizes, moves, one, other, move)
        self.assertTrue(good_dealing(sizes, moves))
        self.assertEqual(tuple(sorted(moves)), row)
        self.assertTrue(all(type(triple) is tuple for triple in found))
        return len(found)

    def test_all_dealings_of_few_places(self):
        for sizes in ((2,), (3,), (4,), (2, 2)):
            places = own_places(sizes)
            triples = [(*pair, move) for pair in itertools.permutations(places, 2) for move in places]
            for moves in [each for some in dealings_by_row(sizes).values() for each in some]:
                least = fewest([moves], lambda here: [exchanged(sizes, here, *triple) for triple in triples])
                for row in all_rows(sizes):
                    many = self.look_at(sizes, moves, row)
                    if dealings_of(sizes, row):
                        self.assertEqual(many, min(least[each] for each in dealings_of(sizes, row)))
                        self.assertEqual(many, len(exchange_path(sizes, tuple(sorted(moves)), row)) - 1)

    def test_some_dealings_of_more_places(self):
        draw = random.Random(73)
        for sizes in ((5,), (6,), (2, 3), (7,), (8,), (2, 4), (2, 2, 2)):
            for _ in range(8):
                moves = drawn_dealing(draw, sizes)
                row = drawn_row(draw, sizes, nothing(sizes))
                many = self.look_at(sizes, moves, row)
                self.assertEqual(many, len(exchange_path(sizes, tuple(sorted(moves)), row)) - 1)
                self.look_at(sizes, moves, drawn_row(draw, sizes, draw.choice(own_places(sizes))))
                self.assertEqual(self.told(leads, dials=sizes, dealing=moves, row=tuple(sorted(moves))), [])

    def test_edges(self):
        still = ((0,),) * 9
        self.too_many(8, leads, dials=(9,), dealing=still, row=still)
        self.too_many(8, leads, dials=(9,), dealing=still, row=still[:8] + ((1,),))
        self.refused(errors.BadRow, leads, dials=(9,), dealing=still, row=still[:8])
        self.refused(errors.BadDealing, leads, dials=(9,), dealing=still[:8] + ((1,),), row=None)
