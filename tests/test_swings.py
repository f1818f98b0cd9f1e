"""Promise 51: walks that come of a walk."""

import itertools
import math
import random

from movedround import errors
from movedround.shifts import renaming
from movedround.swings import renamed_walk, swung, turned_about, walked_back
from movedround.walks import walk
from tests.judges import good_walk, one_half, own_steps, own_walked_back, own_walks
from tests.support import Case, all_dials, nothing, own_halves, own_minus, own_places

WALK6 = ((0,), (5,), (1,), (4,), (2,), (3,))
SWINGS = (walked_back, turned_about, swung)


def some_walks(draw, sizes):
    """All walks of few places, some of many."""
    if not one_half(sizes):
        return []
    if math.prod(sizes) <= 8:
        return own_walks(sizes)
    found = [walk(sizes)]
    for _ in range(5):
        found.append(draw.choice(SWINGS)(sizes, found[-1]))
    return found


def own_swung(sizes, route):
    at = own_steps(sizes, route).index(own_halves(sizes)[0])
    q = route[at + 1]
    return tuple(own_minus(sizes, place, q) for place in route[at + 1:] + route[:at + 1])


class Swings(Case):

    def test_example_by_hand(self):
        self.assertEqual(own_steps((6,), WALK6), [(5,), (2,), (3,), (4,), (1,)])
        found = self.told(swung, dials=(6,), walk=WALK6)
        self.assertEqual(found, ((0,), (4,), (5,), (2,), (1,), (3,)))
        self.assertEqual(own_steps((6,), found), [(4,), (1,), (3,), (5,), (2,)])

    def test_each_as_described(self):
        draw = random.Random(310)
        for sizes in all_dials(24):
            for route in some_walks(draw, sizes):
                self.assertEqual(self.told(walked_back, dials=sizes, walk=route), own_walked_back(sizes, route))
                about = tuple(own_minus(sizes, nothing(sizes), place) for place in route)
                self.assertEqual(self.told(turned_about, dials=sizes, walk=route), about)
                self.assertEqual(self.told(swung, dials=sizes, walk=route), own_swung(sizes, route))

    def test_walks_come_of_walks(self):
        draw = random.Random(311)
        for sizes in all_dials(24):
            for route in some_walks(draw, sizes):
                for function in SWINGS:
                    found = function(sizes, route)
                    self.assertTrue(good_walk(sizes, found))
                    self.assertEqual(function(sizes, found), route)
                for one, other in itertools.combinations(SWINGS, 2):
                    self.assertEqual(one(sizes, other(sizes, route)), other(sizes, one(sizes, route)))
                if math.prod(sizes) > 2:
                    self.assertNotEqual(swung(sizes, route), route)
        for sizes in all_dials(8):
            if math.prod(sizes) > 2:
                self.assertEqual(len(own_walks(sizes)) % 2, 0)
        self.assertEqual(swung((2,), ((0,), (1,))), ((0,), (1,)))

    def test_renamed_walk(self):
        draw = random.Random(312)
        for sizes in all_dials(24):
            for other in all_dials(24):
                if not one_half(sizes) or math.prod(sizes) != math.prod(other):
                    continue
                names = renaming(sizes, other)
                if names is not None:
                    route = draw.choice(some_walks(draw, sizes))
                    found = self.told(renamed_walk, dials=sizes, other=other, names=names, walk=route)
                    self.assertTrue(good_walk(other, found))
                    self.assertEqual(found, tuple(dict(names)[place] for place in route))
        names = [((at,), (5 * at % 6,)) for at in range(6)]
        self.assertEqual(renamed_walk((6,), (6,), names, WALK6), turned_about((6,), WALK6))

    def test_wrong_arguments(self):
        wrong = (None, list(WALK6), WALK6[:5], WALK6[::-1], tuple(own_places((6,))), WALK6[:5] + ((True,),), (), 0,
                 ((False,),) + WALK6[1:])
        names = renaming((6,), (2, 3))
        for route in wrong:
            for function in SWINGS:
                self.refused(errors.BadWalk, function, dials=(6,), walk=route)
            self.refused(errors.BadWalk, renamed_walk, dials=(6,), other=(2, 3), names=names, walk=route)
        for thing in (None, [], names[:5], tuple(names[::-1]), [((at,), (0, 0)) for at in range(6)], dict(names),
                      [list(pair) for pair in names], [((at,), (at,)) for at in range(6)]):
            self.refused(errors.BadNames, renamed_walk, dials=(6,), other=(2, 3), names=thing, walk=None)
        for other in ((25,), (1,), None, [6], (True,)):
            self.refused(errors.BadDials, renamed_walk, dials=(6,), other=other, names=None, walk=None)
        self.refused(errors.BadNames, renamed_walk, dials=(6,), other=(5,), names=names, walk=WALK6)
        for function in SWINGS:
            self.refused(errors.BadWalk, function, dials=(5,), walk=((0,), (1,), (4,), (2,), (3,)))
