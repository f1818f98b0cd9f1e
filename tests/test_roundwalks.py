"""Promise 54: round walks, and the dealings that lead along walks and round walks."""

import itertools
import math
import random

from movedround import errors
from movedround.behind import rounds
from movedround.roundwalks import is_round_walk, led, left_out, rotated, round_walk, round_walks, route_of
from movedround.unlike import is_near, is_unlike, unlike
from movedround.walks import walk
from tests.judges import good_round_walk, good_walk, one_half, own_led, own_round_walks, own_steps, own_walks
from tests.support import Case, all_dials, anything, drawn_dealing, near_misses, nothing, own_ends, own_halves
from tests.support import own_minus, own_places, own_unlike
from tests.test_swings import some_walks

ROUND5 = ((0,), (4,), (1,), (2,))


def some_rounds(draw, sizes):
    """Round walks: all of few places, some of many."""
    if one_half(sizes):
        return []
    if math.prod(sizes) <= 7:
        return own_round_walks(sizes)
    if math.prod(sizes) <= 8:
        return draw.sample(own_round_walks(sizes), 12)
    found = round_walk(sizes)
    return [found] + [rotated(sizes, found, draw.randrange(len(found))) for _ in range(3)]


class RoundWalks(Case):

    def test_examples_by_hand(self):
        self.assertIs(self.told(is_round_walk, dials=(5,), thing=ROUND5), True)
        self.assertEqual(own_steps((5,), ROUND5 + ((0,),)), [(4,), (2,), (1,), (3,)])
        self.assertEqual(self.told(left_out, dials=(5,), walk=ROUND5), (3,))
        self.assertEqual(self.told(led, dials=(5,), route=ROUND5), ((4,), (1,), (3,), (0,), (2,)))
        for sizes, many in (((3,), 2), ((2, 2), 6), ((5,), 8), ((7,), 84), ((2, 4), 112), ((2, 2, 2), 336)):
            self.assertEqual(len(self.told(round_walks, dials=sizes)), many)

    def test_a_walk_or_a_round_walk_never_both(self):
        for sizes in all_dials(24):
            found = self.told(round_walk, dials=sizes)
            self.assertEqual(found is None, one_half(sizes), sizes)
            self.assertEqual(found is None, walk(sizes) is not None)
            if found is not None:
                self.assertTrue(good_round_walk(sizes, found), sizes)
                self.assertIs(self.told(is_round_walk, dials=sizes, thing=found), True)

    def test_all_round_walks(self):
        for sizes in all_dials(8):
            found = self.told(round_walks, dials=sizes)
            self.assertEqual(found, own_round_walks(sizes))
            self.assertEqual(bool(found), not one_half(sizes))
            self.assertEqual(len(found) % (math.prod(sizes) - 1), 0)
            self.assertFalse(found and own_walks(sizes))

    def test_left_out(self):
        draw = random.Random(340)
        for sizes in all_dials(24):
            for route in some_rounds(draw, sizes):
                found = self.told(left_out, dials=sizes, walk=route)
                self.assertEqual([found], sorted(set(own_places(sizes)) - set(route)))

    def test_rotated(self):
        draw = random.Random(341)
        for sizes in all_dials(24):
            for route in some_rounds(draw, sizes)[:8]:
                found = [rotated(sizes, route, index) for index in range(len(route))]
                for index, each in enumerate(found):
                    own = tuple(own_minus(sizes, place, route[index]) for place in route[index:] + route[:index])
                    self.assertEqual(each, own)
                    self.assertTrue(good_round_walk(sizes, each))
                self.assertEqual(len(set(found)), len(route))
                self.assertEqual(found[0], route)
                self.told(rotated, dials=sizes, walk=route, index=len(route) - 1)
                for index in (-1, len(route), True, None, "0", (0,), 1000000000):
                    self.refused(errors.BadIndex, rotated, dials=sizes, walk=route, index=index)

    def test_what_is_no_round_walk(self):
        for route in (None, list(ROUND5), ROUND5[:3], ROUND5 + ((3,),), ROUND5[::-1], ((0,), (1,), (2,), (3,)), (), 0,
                      ((False,),) + ROUND5[1:], ROUND5[:3] + (None,), ROUND5[1:] + ROUND5[:1]):
            self.refused(errors.BadRoundWalk, left_out, dials=(5,), walk=route)
            self.refused(errors.BadRoundWalk, rotated, dials=(5,), walk=route, index=None)
            self.refused(errors.BadRoute, led, dials=(5,), route=route)
        self.refused(errors.BadRoundWalk, left_out, dials=(4,), walk=((0,), (1,), (3,), (2,)))
        self.refused(errors.BadRoundWalk, left_out, dials=(2,), walk=((0,),))
        self.assertIs(is_round_walk((2,), ((0,),)), False)

    def test_any_value_is_judged_as_described(self):
        for sizes, valid in (((5,), ROUND5), ((3,), ((0,), (1,))), ((2, 2), own_round_walks((2, 2))[3])):
            for thing in anything() + list(near_misses(valid)):
                told = self.told(is_round_walk, dials=sizes, thing=thing)
                self.assertIs(told, good_round_walk(sizes, thing), thing)
        for sizes in all_dials(6):
            n = math.prod(sizes)
            for order in itertools.permutations(own_places(sizes), n - 1):
                self.assertIs(is_round_walk(sizes, order), good_round_walk(sizes, order))

    def test_too_many(self):
        for sizes in ((9,), (3, 3), (10,), (24,)):
            self.too_many(8, round_walks, dials=sizes)


class Led(Case):

    def test_all_are_led_along(self):
        draw = random.Random(342)
        for sizes in all_dials(24):
            for route in some_rounds(draw, sizes) + some_walks(draw, sizes):
                found = self.told(led, dials=sizes, route=route)
                self.assertEqual(found, own_led(sizes, route))
                end_of = dict(zip(own_places(sizes), own_ends(sizes, found)))
                self.assertEqual([end_of[place] for place in route], list(route[1:] + route[:1]))
                if len(route) == math.prod(sizes):
                    self.assertIs(is_near(sizes, nothing(sizes), found), True)
                else:
                    self.assertIs(is_unlike(sizes, found), True)
                self.assertEqual(self.told(route_of, dials=sizes, dealing=found), route)

    def own_route(self, sizes, dealing):
        """What route_of tells, by the fact."""
        lists = rounds(sizes, dealing)
        move_of = dict(zip(own_places(sizes), dealing))
        if is_near(sizes, nothing(sizes), dealing):
            half = own_halves(sizes)[0]
            return tuple(lists[0]) if len(lists) == 1 and move_of[half] == half else None
        if is_unlike(sizes, dealing) and len(lists) == 2 and len(lists[1]) == 1:
            return tuple(lists[0])
        return None

    def test_route_of_any_dealing(self):
        draw = random.Random(343)
        seen = set()
        for sizes in all_dials(24):
            some = [drawn_dealing(draw, sizes) for _ in range(4)] + [(nothing(sizes),) * math.prod(sizes)]
            if math.prod(sizes) <= 7:
                some += own_unlike(sizes)
            elif unlike(sizes) is not None:
                some.append(unlike(sizes))
            for route in some_walks(draw, sizes)[:4]:
                some.append(own_led(sizes, route))
            for dealing in some:
                found = self.told(route_of, dials=sizes, dealing=dealing)
                self.assertEqual(found, self.own_route(sizes, dealing))
                seen.add(found is None)
        self.assertEqual(seen, {True, False})

    def test_route_of_all_dealings_of_few_places(self):
        for sizes in all_dials(6):
            routes = {own_led(sizes, route): route for route in own_walks(sizes) + own_round_walks(sizes)}
            for goals in itertools.permutations(own_places(sizes)):
                dealing = tuple(own_minus(sizes, goal, x) for x, goal in zip(own_places(sizes), goals))
                found = route_of(sizes, dealing)
                self.assertEqual(found, routes.get(dealing))
                self.assertEqual(found, self.own_route(sizes, dealing))

    def test_wrong_arguments(self):
        self.told(led, dials=(4,), route=((0,), (1,), (3,), (2,)))
        for route in (None, [(0,), (1,), (3,), (2,)], ((0,), (1,), (2,), (3,)), ((0,), (1,), (3,)), (), 0, {},
                      ((0,), (1,), (3,), (True,))):
            self.refused(errors.BadRoute, led, dials=(4,), route=route)
        for dealing in (None, [(0,)] * 4, ((0,), (0,), (0,), (1,)), ((0,),) * 3, ((0,), (0,), (0,), (False,))):
            self.refused(errors.BadDealing, route_of, dials=(4,), dealing=dealing)
        self.assertFalse(good_walk((4,), ((0,), (1,), (3,))))
