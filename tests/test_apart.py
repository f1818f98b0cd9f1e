"""Promise 45: dealings apart from one another, and bundles."""

import itertools
import math
import random

from movedround import errors
from movedround.apart import are_apart, greatest, is_bundle, joins, multiples, onward, rebundled
from movedround.behind import shifted, undone
from movedround.straight import multiplied
from movedround.unlike import unlike
from tests.judges import good_bundle, own_apart
from tests.support import Case, all_dials, anything, good_dealing, good_unlike, near_misses, nothing, own_ends
from tests.support import own_minus, own_places, own_unlike

ONCE, TWICE, THRICE = [tuple((at * number % 5,) for at in range(5)) for number in (1, 2, 3)]


def some_pairs(draw, sizes, many=12):
    """Pairs of unlike dealings."""
    if math.prod(sizes) <= 9:
        some = draw.choices(own_unlike(sizes), k=2 * many) if own_unlike(sizes) else []
        return list(zip(some[::2], some[1::2]))
    moves = unlike(sizes)
    if moves is None:
        return []
    some = [multiplied(sizes, number) for number in range(1, 24)]
    some = [moves, shifted(sizes, moves, own_places(sizes)[1])] + [each for each in some if each is not None]
    return [draw.choices(some, k=2) for _ in range(4)]


def own_bundles(sizes, bundle=()):
    """All bundles in which all dealings give nothing to nothing, and each one behind the bundle."""
    yield bundle
    for moves in own_unlike(sizes):
        if moves[0] == nothing(sizes) and (not bundle or moves > bundle[-1]):
            if all(own_apart(sizes, moves, other) for other in bundle):
                yield from own_bundles(sizes, bundle + (moves,))


class Apart(Case):

    def test_example(self):
        self.assertEqual(self.told(onward, dials=(5,), one=ONCE, other=TWICE), THRICE)
        self.assertIs(self.told(are_apart, dials=(5,), one=ONCE, other=TWICE), True)

    def test_apart_and_onward(self):
        draw = random.Random(210)
        seen = set()
        for sizes in all_dials(24):
            for one, other in some_pairs(draw, sizes):
                told = self.told(are_apart, dials=sizes, one=one, other=other)
                self.assertIs(told, own_apart(sizes, one, other))
                found = self.told(onward, dials=sizes, one=one, other=other)
                self.assertTrue(good_dealing(sizes, found))
                self.assertIs(good_unlike(sizes, found), told)
                move_of = dict(zip(own_places(sizes), found))
                for end, here, there in zip(own_ends(sizes, one), one, other):
                    self.assertEqual(move_of[end], own_minus(sizes, there, here))
                seen.add(told)
        self.assertEqual(seen, {True, False})

    def test_all_pairs_of_few_places(self):
        for sizes in ((3,), (2, 2), (5,)):
            for one, other in itertools.product(own_unlike(sizes), repeat=2):
                told = are_apart(sizes, one, other)
                self.assertIs(told, own_apart(sizes, one, other))
                self.assertIs(good_unlike(sizes, onward(sizes, one, other)), told)
            for moves in own_unlike(sizes):
                self.assertIs(are_apart(sizes, moves, moves), False)

    def test_wrong_arguments(self):
        for function in (are_apart, onward):
            for moves in (((0,),) * 5, list(ONCE), None, ONCE[:4], (), ONCE[:1] + ((True,),) + ONCE[2:]):
                self.refused(errors.BadUnlike, function, dials=(5,), one=moves, other=TWICE)
                self.refused(errors.BadUnlike, function, dials=(5,), one=ONCE, other=moves)


class Bundles(Case):

    def test_any_value_is_judged_as_described(self):
        for sizes, valid in (((5,), (ONCE, TWICE)), ((5,), (ONCE, TWICE, THRICE)), ((3,), (((0,), (1,), (2,)),)),
                             ((2, 2), greatest((2, 2))[1])):
            self.assertIs(self.told(is_bundle, dials=sizes, thing=valid), True)
            for thing in anything() + list(near_misses(valid)):
                self.assertIs(self.told(is_bundle, dials=sizes, thing=thing), good_bundle(sizes, thing), thing)

    def test_edges(self):
        for thing, told in (((), True), ((ONCE,), True), ((TWICE, ONCE), False), ((ONCE, ONCE), False),
                            ([ONCE, TWICE], False), ([], False), ((list(ONCE),), False), (ONCE, False),
                            ((ONCE, tuple((at + 1) % 5 for at in range(5))), False), ((((0,),) * 5,), False)):
            self.assertIs(self.told(is_bundle, dials=(5,), thing=thing), told)
            if not told:
                self.refused(errors.BadBundle, joins, dials=(5,), bundle=thing)
                self.refused(errors.BadBundle, rebundled, dials=(5,), bundle=thing, dealing=ONCE)
        self.assertIs(is_bundle((4,), ()), True)
        self.assertIs(is_bundle((5,), (ONCE, tuple(((at + 1) % 5,) for at in range(5)))), False)

    def test_rebundled(self):
        draw = random.Random(211)
        for sizes in all_dials(8):
            bundles = list(own_bundles(sizes))
            for bundle in draw.sample(bundles, min(25, len(bundles))) + [greatest(sizes)[1]]:
                for moves in bundle:
                    self.look_at(sizes, bundle, moves)
        for sizes in ((11,), (13,), (5, 3), (23,), (9,)):
            bundle = multiples(sizes)
            self.look_at(sizes, bundle, draw.choice(bundle))

    def look_at(self, sizes, bundle, moves):
        found = self.told(rebundled, dials=sizes, bundle=bundle, dealing=moves)
        self.assertTrue(good_bundle(sizes, found))
        self.assertEqual(len(found), len(bundle))
        own = [undone(sizes, moves)] + [onward(sizes, moves, other) for other in bundle if other != moves]
        self.assertEqual(found, tuple(sorted(own)))

    def test_not_in(self):
        for dealing in (THRICE, None, 0, "", (), [], list(ONCE), ((0,),) * 5, (ONCE, TWICE), ONCE[:4],
                        ((0,), (True,), (2,), (3,), (4,)), ((False,), (1,), (2,), (3,), (4,)), {}):
            self.refused(errors.NotIn, rebundled, dials=(5,), bundle=(ONCE, TWICE), dealing=dealing)
            self.refused(errors.NotIn, rebundled, dials=(5,), bundle=(), dealing=dealing)
        self.refused(errors.BadBundle, rebundled, dials=(5,), bundle=[ONCE], dealing=ONCE)

    def test_joins(self):
        draw = random.Random(212)
        for sizes in all_dials(8):
            self.assertEqual(self.told(joins, dials=sizes, bundle=()), own_unlike(sizes))
            bundles = [bundle for bundle in own_bundles(sizes) if bundle]
            for bundle in draw.sample(bundles, min(6, len(bundles))) + [greatest(sizes)[1]]:
                own = [moves for moves in own_unlike(sizes) if all(own_apart(sizes, moves, each) for each in bundle)]
                self.assertEqual(self.told(joins, dials=sizes, bundle=bundle), own)

    def test_greatest(self):
        many = {(8,): 0, (3,): 1, (2, 2): 2, (5,): 3, (7,): 5, (2, 4): 2, (2, 2, 2): 6, (4, 2): 2, (2,): 0, (4,): 0,
                (6,): 0, (2, 3): 0, (3, 2): 0}
        self.assertEqual(sorted(many), sorted(all_dials(8)))
        for sizes, number in many.items():
            found = self.told(greatest, dials=sizes)
            self.assertIs(type(found), tuple)
            self.assertEqual(found[0], number)
            self.assertEqual(len(found[1]), number)
            self.assertTrue(good_bundle(sizes, found[1]))
            self.assertEqual(max(len(bundle) for bundle in own_bundles(sizes)), number)
            self.assertLessEqual(number, math.prod(sizes) - 2)

    def test_multiples(self):
        for sizes in all_dials(24):
            n = math.prod(sizes)
            prime = min(factor for factor in range(2, n + 1) if n % factor == 0)
            found = self.told(multiples, dials=sizes)
            self.assertEqual(found, tuple(multiplied(sizes, number) for number in range(1, prime - 1)))
            self.assertTrue(good_bundle(sizes, found))
            if prime == n:
                self.assertEqual(len(found), n - 2)

    def test_too_many(self):
        for sizes in ((9,), (3, 3), (10,), (23,)):
            self.too_many(8, joins, dials=sizes, bundle=())
            self.too_many(8, joins, dials=sizes, bundle=multiples(sizes))
            self.too_many(8, greatest, dials=sizes)
            self.refused(errors.BadBundle, joins, dials=sizes, bundle=[])
