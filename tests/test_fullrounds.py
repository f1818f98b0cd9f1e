"""Promise 56: full rounds of two moves."""

import itertools
import math
import random

from movedround import errors
from movedround.dials import turn_of
from movedround.fullrounds import full_counts, full_round, is_full_round
from movedround.shifts import part_of, shifts
from tests.judges import own_full_rounds, own_times
from tests.support import Case, all_dials, anything, near_misses, nothing, own_ends, own_minus, own_places, own_plus

BY_HAND = ((1,), (3,), (1,), (3,), (1,), (3,))


def by_fact(sizes, one, other):
    """The numbers, by the fact."""
    part = part_of(sizes, [own_minus(sizes, one, other)])
    r = len(shifts(sizes, part))
    found = {}
    if len(part_of(sizes, [one, other])) == math.prod(sizes):
        for s in range(r + 1):
            once_round = own_plus(sizes, own_times(sizes, one, s), own_times(sizes, other, r - s))
            if turn_of(sizes, once_round) == len(part):
                found[len(part) * s] = math.comb(r, s)
    return found


def good_full_round(sizes, one, other, thing):
    if type(thing) is not tuple or len(thing) != math.prod(sizes):
        return False
    if not all(type(move) is tuple and all(type(at) is int for at in move) and move in (one, other) for move in thing):
        return False
    end_of = dict(zip(own_places(sizes), own_ends(sizes, thing)))
    met = [nothing(sizes)]
    while end_of[met[-1]] not in met:
        met.append(end_of[met[-1]])
    return len(met) == len(thing) and end_of[met[-1]] == nothing(sizes)


class FullRounds(Case):

    def test_example_by_hand(self):
        self.assertEqual(self.told(full_counts, dials=(6,), one=(1,), other=(3,)), {3: 2, 6: 1})
        self.assertIs(self.told(is_full_round, dials=(6,), one=(1,), other=(3,), thing=BY_HAND), True)
        end_of = dict(zip(own_places((6,)), own_ends((6,), BY_HAND)))
        route = [(0,)]
        for _ in range(5):
            route.append(end_of[route[-1]])
        self.assertEqual(route, [(0,), (1,), (4,), (5,), (2,), (3,)])
        self.assertEqual([turn_of((6,), (at,)) for at in (0, 4, 2)], [1, 3, 3])

    def test_by_trying_all(self):
        for sizes in all_dials(8):
            for one, other in itertools.permutations(own_places(sizes), 2):
                own = own_full_rounds(sizes, one, other)
                counts = {}
                for moves in own:
                    counts[moves.count(one)] = counts.get(moves.count(one), 0) + 1
                found = self.told(full_counts, dials=sizes, one=one, other=other)
                self.assertEqual(found, counts, (sizes, one, other))
                self.assertEqual(found, by_fact(sizes, one, other))
                self.assertIn(self.told(full_round, dials=sizes, one=one, other=other), own or [None])
                for moves in own:
                    self.assertIs(is_full_round(sizes, one, other, moves), True)

    def test_by_the_fact(self):
        draw = random.Random(360)
        seen = set()
        for sizes in all_dials(24):
            for _ in range(12):
                one, other = draw.sample(own_places(sizes), 2)
                counts = by_fact(sizes, one, other)
                self.assertEqual(self.told(full_counts, dials=sizes, one=one, other=other), counts)
                found = self.told(full_round, dials=sizes, one=one, other=other)
                self.assertEqual(found is None, not counts)
                seen.add(found is None)
                if found is not None:
                    self.assertTrue(good_full_round(sizes, one, other, found))
                    self.assertIn(found.count(one), counts)
        self.assertEqual(seen, {True, False})

    def test_all_of_a_shift_have_the_same_move(self):
        for sizes in all_dials(7):
            for one, other in itertools.combinations(own_places(sizes), 2):
                for moves in own_full_rounds(sizes, one, other):
                    move_of = dict(zip(own_places(sizes), moves))
                    for shift in shifts(sizes, part_of(sizes, [own_minus(sizes, one, other)])):
                        self.assertEqual(len({move_of[person] for person in shift}), 1)

    def test_any_value_is_judged_as_described(self):
        for sizes, one, other, valid in (((6,), (1,), (3,), BY_HAND), ((2,), (0,), (1,), ((1,), (1,))),
                                         ((2, 2), (0, 1), (1, 0), full_round((2, 2), (0, 1), (1, 0)))):
            for thing in anything() + list(near_misses(valid)):
                judged = self.told(is_full_round, dials=sizes, one=one, other=other, thing=thing)
                self.assertIs(judged, good_full_round(sizes, one, other, thing), thing)
        for sizes in ((3,), (4,), (2, 2), (5,), (6,)):
            for one, other in itertools.permutations(own_places(sizes), 2):
                for thing in itertools.product((one, other), repeat=math.prod(sizes)):
                    judged = is_full_round(sizes, one, other, thing)
                    self.assertIs(judged, good_full_round(sizes, one, other, thing))
        # One round, but with a move that is neither.
        self.assertIs(is_full_round((6,), (1,), (3,), ((5,),) * 6), False)
        self.assertIs(is_full_round((6,), (5,), (3,), ((5,),) * 6), True)

    def test_wrong_arguments(self):
        for function, more in ((is_full_round, {"thing": None}), (full_round, {}), (full_counts, {})):
            for move in ((6,), (-1,), (True,), (0, 0), [1], 1, None, "1", {}, ()):
                self.refused(errors.BadMove, function, dials=(6,), one=move, other=(3,), **more)
                self.refused(errors.BadMove, function, dials=(6,), one=(3,), other=move, **more)
                self.refused(errors.BadMove, function, dials=(6,), one=move, other=move, **more)
            for move in own_places((6,)):
                self.refused(errors.BadOther, function, dials=(6,), one=move, other=move, **more)
            self.refused(errors.BadMove, function, dials=(6,), one=(1,), other=(True,), **more)
