"""Promise 43: all unlike dealings, and all near ones."""

import collections
import itertools
import math

from movedround import errors
from movedround.manyunlike import nears, unlike_dealings, unlike_many, unlike_that
from movedround.unlike import is_near
from tests.support import Case, all_dials, dealings_by_row, own_halves, own_minus, own_places, own_unlike


class ManyUnlike(Case):

    def test_examples(self):
        many = {(3,): 3, (2, 2): 8, (5,): 15, (7,): 133, (2, 4): 384, (2, 2, 2): 384, (9,): 2025, (3, 3): 2241}
        for sizes, told in many.items():
            self.assertEqual(self.told(unlike_many, dials=sizes), told)
            self.assertEqual(len(self.told(unlike_dealings, dials=sizes)), told)
        for sizes, told in (((4,), 4), ((6,), 24), ((8,), 256)):
            for move in own_places(sizes):
                self.assertEqual(len(self.told(nears, dials=sizes, move=move)), told)

    def test_all_unlike_dealings(self):
        for sizes in all_dials(9):
            self.assertEqual(self.told(unlike_dealings, dials=sizes), own_unlike(sizes))
            self.assertEqual(self.told(unlike_many, dials=sizes), len(own_unlike(sizes)))
        for sizes in all_dials(7):
            row = tuple(own_places(sizes))
            self.assertEqual(unlike_dealings(sizes), dealings_by_row(sizes).get(row, []))

    def test_all_near_dealings(self):
        for sizes in all_dials(8):
            every = None
            if math.prod(sizes) < 8:
                every = [moves for some in dealings_by_row(sizes).values() for moves in some]
            for move in own_places(sizes):
                if len(own_halves(sizes)) != 1:
                    self.refused(errors.NotOneHalf, nears, dials=sizes, move=move)
                    continue
                found = self.told(nears, dials=sizes, move=move)
                self.assertEqual(found, sorted(set(found)))
                self.assertTrue(all(is_near(sizes, move, moves) for moves in found))
                self.assertEqual(len(found), len(nears(sizes, own_places(sizes)[0])))
                if every is not None:
                    self.assertEqual(found, sorted(moves for moves in every if is_near(sizes, move, moves)))

    def test_each_move_is_given_by_as_many(self):
        for sizes in all_dials(9):
            some = own_unlike(sizes)
            places = own_places(sizes)
            self.assertEqual(len(some) % len(places), 0)
            for at, person in enumerate(places):
                often = collections.Counter(moves[at] for moves in some)
                self.assertTrue(all(often[move] * len(places) == len(some) for move in places))

    def test_two_persons_by_what_is_between_them(self):
        for sizes in ((3,), (2, 2), (5,), (7,), (2, 4)):
            places = own_places(sizes)
            told = {}
            for x, y in itertools.permutations(places, 2):
                here, there = places.index(x), places.index(y)
                often = collections.Counter((moves[here], moves[there]) for moves in own_unlike(sizes))
                for u, v in itertools.product(places, repeat=2):
                    key = own_minus(sizes, y, x), own_minus(sizes, v, u)
                    self.assertEqual(told.setdefault(key, often[(u, v)]), often[(u, v)])
                    if u == v:
                        self.assertEqual(often[(u, v)], 0)
            x, y = places[0], places[1]
            self.assertEqual(len(unlike_that(sizes, {x: x, y: y})), told[(y, y)])

    def test_two_differ_for_three_persons_at_least(self):
        for sizes in ((3,), (2, 2), (5,), (7,)):
            for one, other in itertools.combinations(own_unlike(sizes), 2):
                self.assertGreaterEqual(sum(a != b for a, b in zip(one, other)), 3)


class Known(Case):

    def test_each_of_these_persons_has_this_move(self):
        for sizes in ((3,), (2, 2), (5,), (4,), (2,)):
            places = own_places(sizes)
            for many in (0, 1, 2):
                for persons in itertools.combinations(places, many):
                    for moves in itertools.product(places, repeat=many):
                        self.look_at(sizes, dict(zip(persons, moves)))

    def look_at(self, sizes, known):
        places = own_places(sizes)
        own = [moves for moves in own_unlike(sizes)
               if all(moves[places.index(person)] == known[person] for person in known)]
        self.assertEqual(self.told(unlike_that, dials=sizes, known=known), own)
        backwards = {person: known[person] for person in reversed(list(known))}
        self.assertEqual(unlike_that(sizes, backwards), own)

    def test_nobody_and_all(self):
        for sizes in all_dials(9):
            self.look_at(sizes, {})
            places = own_places(sizes)
            for moves in own_unlike(sizes)[:2]:
                self.look_at(sizes, dict(zip(places, moves)))
                self.look_at(sizes, dict(zip(places[::2], moves[::2])))
            self.look_at(sizes, dict(zip(places, places[::-1])))
            self.look_at(sizes, {place: places[0] for place in places})

    def test_known_that_is_none(self):
        for known in ([], (), None, 0, "", [((0,), (0,))], {0: (0,)}, {(0,): 0}, {(3,): (0,)}, {(0,): (3,)},
                      {(False,): (0,)}, {(0,): (False,)}, {(0,): [0]}, {(0, 0): (0,)}, {None: None}, {(0,): None}):
            self.refused(errors.BadKnown, unlike_that, dials=(3,), known=known)
        for known in ([], None, {(11,): (0,)}, {(0,): (11,)}, {(False,): (0,)}, {(0,): (False,)}):
            self.refused(errors.BadKnown, unlike_that, dials=(11,), known=known)

    def test_too_many(self):
        for sizes in ((10,), (2, 5), (11,), (24,)):
            self.too_many(9, unlike_dealings, dials=sizes)
            self.too_many(9, unlike_many, dials=sizes)
            self.too_many(9, unlike_that, dials=sizes, known={})
        for sizes in ((10,), (2, 5), (14,)):
            self.too_many(8, nears, dials=sizes, move=own_places(sizes)[0])
            self.refused(errors.BadMove, nears, dials=sizes, move=None)
        for sizes in ((9,), (11,), (3, 3), (2, 6)):
            self.refused(errors.NotOneHalf, nears, dials=sizes, move=own_places(sizes)[0])
