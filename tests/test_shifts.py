"""Promise 11: parts, shifts and renamings."""

import collections
import itertools
import math

from movedround import errors
from movedround.dials import turn_of
from movedround.shifts import is_renaming, part_of, parts, renaming, shifts
from tests.support import Case, all_dials, anything, good_part, good_renaming, near_misses, nothing, own_places
from tests.support import own_plus


def parts_by_trying(sizes):
    """All parts of few places: by trying all tuples of places."""
    places = own_places(sizes)
    return [some for many in range(1, len(places) + 1) for some in itertools.combinations(places, many)
            if good_part(sizes, some)]


class Parts(Case):

    def test_parts_by_trying_all_tuples(self):
        for sizes in all_dials(12):
            self.assertEqual(self.told(parts, dials=sizes), parts_by_trying(sizes), sizes)

    def test_how_many_parts_there_are(self):
        # For one dial one for each divisor of its size; for (2, 2, 2), (2, 2, 2, 2), (3, 3) counted by dimension.
        for size in range(2, 25):
            divisors = [k for k in range(1, size + 1) if size % k == 0]
            self.assertEqual([len(part) for part in self.told(parts, dials=(size,))], divisors)
        for sizes, many in (((2, 2, 2), 16), ((2, 2, 2, 2), 67), ((3, 3), 6), ((2, 2, 2, 3), 32)):
            found = self.told(parts, dials=sizes)
            self.assertEqual(len(found), many)
            self.assertEqual(found, sorted(found, key=lambda part: (len(part), part)))
            self.assertTrue(all(good_part(sizes, part) for part in found))

    def test_part_of_is_the_least_one(self):
        for sizes in ((6,), (8,), (2, 4), (2, 2, 3), (3, 3)):
            for several in itertools.chain([()], itertools.combinations(own_places(sizes), 2)):
                found = self.told(part_of, dials=sizes, several=list(several))
                self.assertEqual(found, part_of(sizes, several))
                having = [part for part in parts(sizes) if set(several) <= set(part)]
                self.assertEqual(found, having[0])
                self.assertTrue(all(set(found) <= set(part) for part in having))
        self.assertEqual(self.told(part_of, dials=(6,), several=[]), ((0,),))
        self.assertEqual(self.told(part_of, dials=(6,), several=[(4,), (4,)]), ((0,), (2,), (4,)))
        self.assertEqual(self.told(part_of, dials=(6,), several=[(2,), (3,)]), tuple(own_places((6,))))
        for several in ([(6,)], [(True,)], (0,), [[0]], None, {(0,): 1}, "0"):
            self.refused(errors.BadSeveral, part_of, dials=(6,), several=several)

    def test_shifts_have_each_place_once(self):
        for sizes in all_dials(16):
            for part in parts(sizes):
                found = self.told(shifts, dials=sizes, part=part)
                own = {tuple(sorted(own_plus(sizes, x, place) for x in part)) for place in own_places(sizes)}
                self.assertEqual(found, sorted(own))
                self.assertEqual(sorted(itertools.chain(*found)), own_places(sizes))
                self.assertEqual(len(found) * len(part), math.prod(sizes))

    def test_what_is_no_part(self):
        for part in (((0,), (2,), (2,), (4,)), ((0,), (4,), (2,)), ((2,), (4,)), ((2,),), (), ((0,), (2,)),
                     ((0,), (1,)), ((0,), (1,), (2,)), [(0,), (2,), (4,)], ((0,), (2,), [4]), ((False,),),
                     ((False,), (3,)),
                     ((0,), (2,), (4,), (6,)), ((0,), (3,), (3,)), (0,), None, {(0,): 1}, {}):
            self.refused(errors.BadPart, shifts, dials=(6,), part=part)
        self.assertEqual(self.told(shifts, dials=(6,), part=((0,),)), [((at,),) for at in range(6)])


class Renamings(Case):

    def test_examples_by_hand(self):
        found = self.told(renaming, one=(6,), other=(2, 3))
        self.assertTrue(good_renaming((6,), (2, 3), found))
        self.assertIs(self.told(is_renaming, one=(6,), other=(2, 3), thing=found), True)
        by_both = [((k,), (k % 2, k % 3)) for k in range(6)]
        self.assertIs(self.told(is_renaming, one=(6,), other=(2, 3), thing=by_both), True)
        self.assertIs(self.told(is_renaming, one=(6,), other=(2, 3), thing=tuple(by_both)), True)
        self.assertIsNone(self.told(renaming, one=(4,), other=(2, 2)))
        self.assertIsNone(self.told(renaming, one=(2, 2), other=(4,)))

    def test_there_is_one_exactly_if_the_turns_are_as_many(self):
        turns = {sizes: collections.Counter(turn_of(sizes, x) for x in own_places(sizes)) for sizes in all_dials(24)}
        for one in turns:
            for other in turns:
                if math.prod(one) <= 12 or math.prod(one) == math.prod(other):
                    found = renaming(one, other)
                    self.assertEqual(found is not None, turns[one] == turns[other], (one, other))
                    if found is not None:
                        self.assertTrue(good_renaming(one, other, found))
                        self.assertTrue(is_renaming(one, other, found))

    def test_none_of_dials_with_other_products(self):
        self.assertIsNone(self.told(renaming, one=(3,), other=(6,)))
        self.assertIsNone(self.told(renaming, one=(6,), other=(3,)))
        self.assertIsNone(self.told(renaming, one=(2,), other=(2, 2)))

    def test_any_value_is_judged_as_described(self):
        for one, other in (((6,), (2, 3)), ((2, 2), (2, 2)), ((4,), (4,)), ((4,), (2, 2)), ((3,), (6,)), ((2,), (2,))):
            places = own_places(one)
            valid = renaming(one, other) or [(x, y) for x, y in zip(places, own_places(other))]
            own = [list(zip(places, order)) for order in itertools.permutations(own_places(other))][:200]
            for thing in anything() + list(near_misses(valid)) + own:
                judged = self.told(is_renaming, one=one, other=other, thing=thing)
                self.assertIs(judged, good_renaming(one, other, thing), (one, other, thing))

    def test_edges(self):
        for thing in ([((0,), (False,)), ((1,), (1,))], [((False,), (0,)), ((True,), (1,))],
                      [[(0,), (0,)], [(1,), (1,)]], [((1,), (1,)), ((0,), (0,))], [((0,), (1,)), ((1,), (0,))],
                      [((0,), (0,)), ((1,), (0,))],
                      [((0,), (0,))], [((0,), (0,)), ((0,), (0,)), ((1,), (1,))], {(0,): (0,), (1,): (1,)}):
            self.assertIs(self.told(is_renaming, one=(2,), other=(2,), thing=thing), False, thing)
        self.assertIs(self.told(is_renaming, one=(2,), other=(2,), thing=[((0,), (0,)), ((1,), (1,))]), True)
        self.assertEqual(nothing((2, 3)), dict(renaming((6,), (2, 3)))[(0,)])
