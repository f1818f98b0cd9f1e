"""Promise 55: trips, trees of cases and crowded moves."""

import itertools
import math
import random

from movedround import errors
from movedround.bymoves import crowded, is_stuck_trip, is_trip, stuck_trip, trip, trips_many
from movedround.dials import turn_of
from movedround.shifts import parts
from tests.judges import good_stuck_trip, good_trip, one_half, own_round_walks, own_steps, own_tree, own_trips
from tests.judges import own_walks
from tests.support import Case, all_dials, anything, near_misses, nothing, own_minus, own_places, own_total


def drawn_told(draw, sizes, most):
    many = draw.randint(1, min(most, math.prod(sizes)))
    return tuple(sorted(draw.choices(own_places(sizes)[1:], k=many)))


def drawn_closed(draw, sizes):
    rest = own_places(sizes)[1:]
    return tuple(sorted(draw.sample(rest, draw.randint(0, min(3, len(rest))))))


def nothing_last(draw, sizes, most):
    """Told moves that add up to nothing."""
    while True:
        told = drawn_told(draw, sizes, most)
        rest = own_minus(sizes, nothing(sizes), own_total(sizes, told))
        if rest != nothing(sizes) and len(told) < min(most, math.prod(sizes)):
            return tuple(sorted(told + (rest,)))
        if rest == nothing(sizes):
            return told


def some_cases(seed, most):
    """Dials, told moves and closed places."""
    draw = random.Random(seed)
    for sizes in all_dials(24):
        for _ in range(2):
            yield sizes, drawn_told(draw, sizes, most), drawn_closed(draw, sizes)
            yield sizes, drawn_told(draw, sizes, most), ()
        yield sizes, nothing_last(draw, sizes, most), drawn_closed(draw, sizes)
        yield sizes, nothing_last(draw, sizes, most), ()


def few_cases():
    """All told moves and closed places of few places."""
    for sizes in ((2,), (3,), (4,), (2, 2)):
        rest = own_places(sizes)[1:]
        for many in range(1, len(rest) + 2):
            for told in itertools.combinations_with_replacement(rest, many):
                for few in range(len(rest) + 1):
                    for closed in itertools.combinations(rest, few):
                        yield sizes, told, closed


def cases_end(tree, many, depth=0):
    """Whether no case of the tree uses up so many moves."""
    return depth < many and all(cases_end(branch, many, depth + 1) for branch in tree.values())


class Trips(Case):

    def look_at(self, sizes, told, closed):
        own = own_trips(sizes, told, closed)
        found = self.told(trip, dials=sizes, told=told, closed=closed)
        self.assertEqual(found is None, not own, (sizes, told, closed))
        self.assertIn(found, own or [None])
        self.assertEqual(self.told(trips_many, dials=sizes, told=told, closed=closed), len(own))
        if len(told) <= 6:
            self.look_at_tree(sizes, told, closed, own)
        for order in own[:2] + [told, told[::-1]]:
            judged = self.told(is_trip, dials=sizes, told=told, closed=closed, thing=order)
            self.assertIs(judged, good_trip(sizes, told, closed, order))
        if crowded(sizes, told) is not None:
            self.assertFalse(own)

    def look_at_tree(self, sizes, told, closed, own):
        tree = self.told(stuck_trip, dials=sizes, told=told, closed=closed)
        self.assertEqual(tree is None, bool(own))
        judged = self.told(is_stuck_trip, dials=sizes, told=told, closed=closed, thing=tree)
        self.assertIs(judged, not own)
        whole_tree = own_tree(sizes, told, closed)
        if own:
            self.assertIs(is_stuck_trip(sizes, told, closed, whole_tree), False)
        else:
            self.assertEqual(tree, whole_tree)
            self.assertTrue(cases_end(tree, len(told)))

    def test_examples_by_hand(self):
        told = ((1,), (2,))
        self.assertEqual(self.told(trip, dials=(4,), told=told, closed=((1,),)), ((2,), (1,)))
        self.assertEqual(self.told(stuck_trip, dials=(4,), told=told, closed=((1,), (2,))), {})
        self.assertEqual(self.told(stuck_trip, dials=(4,), told=told, closed=((2,), (3,))), {(1,): {}})
        self.assertIsNone(self.told(stuck_trip, dials=(4,), told=told, closed=((1,),)))
        self.assertEqual(self.told(crowded, dials=(4,), told=((2,), (2,), (2,))), ((0,), (2,)))

    def test_all_cases_of_few_places(self):
        for sizes, told, closed in few_cases():
            self.look_at(sizes, told, closed)

    def test_drawn_cases(self):
        for sizes, told, closed in some_cases(350, 5):
            self.look_at(sizes, told, closed)

    def test_some_longer_cases(self):
        draw = random.Random(351)
        for sizes in ((7,), (8,), (2, 4), (2, 2, 2), (10,), (24,)):
            for most in (6, 7):
                told = tuple(sorted(draw.choices(own_places(sizes)[1:], k=most)))
                self.look_at(sizes, told, drawn_closed(draw, sizes))
            self.look_at(sizes, nothing_last(draw, sizes, 7), ())

    def test_any_value_is_judged_as_described(self):
        for sizes, told, closed in (((4,), ((1,), (2,)), ((1,),)), ((2, 2), ((0, 1), (1, 0), (1, 1)), ()),
                                    ((5,), ((1,), (1,), (3,)), ((4,),)), ((3,), ((1,), (1,)), ())):
            for valid in own_trips(sizes, told, closed)[:1]:
                for thing in anything() + list(near_misses(valid)):
                    judged = self.told(is_trip, dials=sizes, told=told, closed=closed, thing=thing)
                    self.assertIs(judged, good_trip(sizes, told, closed, thing), thing)

    def test_any_tree_is_judged_as_described(self):
        for sizes, told, closed in (((4,), ((1,), (2,)), ((2,), (3,))), ((4,), ((1,), (2,)), ((1,), (2,))),
                                    ((4,), ((2,), (2,), (2,)), ()), ((5,), ((1,), (1,), (3,)), ((2,),)),
                                    ((2, 2), ((0, 1), (0, 1), (1, 0), (1, 0)), ()), ((4,), ((1,), (2,)), ((1,),))):
            valid = own_tree(sizes, told, closed)
            inner = [{move: other for move in valid} for other in ({}, None, [], {(1,): {}}, {(True,): {}})]
            for thing in anything() + list(near_misses(valid)) + inner + [dict(reversed(list(valid.items())))]:
                judged = self.told(is_stuck_trip, dials=sizes, told=told, closed=closed, thing=thing)
                self.assertIs(judged, good_stuck_trip(sizes, told, closed, thing), thing)
        told, closed = ((1,), (2,)), ((2,), (3,))
        for thing, judged in (({(1,): {}}, True), ({(True,): {}}, False), ({(1,): []}, False), ({1: {}}, False),
                              ({(1,): {}, (2,): {}}, False), ({}, False), (None, False), ({(2,): {}}, False),
                              ({(1,): {(2,): {}}}, False), ([((1,), {})], False)):
            self.assertIs(self.told(is_stuck_trip, dials=(4,), told=told, closed=closed, thing=thing), judged)

    def test_order_of_keys_has_no_meaning(self):
        sizes, told, closed = (2, 2), ((0, 1), (0, 1), (0, 1), (1, 0)), ()
        tree = stuck_trip(sizes, told, closed)
        self.assertEqual(list(tree), sorted(tree))
        self.assertGreater(len(tree), 1)

        def backwards(branch):
            return {move: backwards(branch[move]) for move in reversed(list(branch))}

        self.assertIs(self.told(is_stuck_trip, dials=sizes, told=told, closed=closed, thing=backwards(tree)), True)

    def test_too_many(self):
        for many in range(1, 9):
            told = ((1,),) * many
            for function in (trip, trips_many):
                if many > 7:
                    self.too_many(7, function, dials=(24,), told=told, closed=())
                else:
                    self.told(function, dials=(24,), told=told, closed=())
            if many > 6:
                self.too_many(6, stuck_trip, dials=(24,), told=told, closed=())
                self.too_many(6, is_stuck_trip, dials=(24,), told=told, closed=(), thing={})
            else:
                self.told(stuck_trip, dials=(24,), told=told, closed=())
                self.assertIs(is_stuck_trip((24,), told, (), {}), False)
            self.told(crowded, dials=(24,), told=told)
            self.assertIs(self.told(is_trip, dials=(24,), told=told, closed=(), thing=told), True)
        self.assertIs(is_trip((24,), ((1,),) * 24, (), ((1,),) * 24), True)
        self.assertIs(is_trip((24,), ((1,),) * 24, ((5,),), ((1,),) * 24), False)

    def test_what_is_not_told(self):
        for told in (None, (), [], [(1,)], ((0,),), ((0,), (1,)), ((2,), (1,)), ((4,),), ((True,),), (1,), ((1,),) * 5,
                     {(1,): 1}, "1", ((1, 1),), ([1],)):
            for function, more in ((trip, {"closed": None}), (trips_many, {"closed": None}),
                                   (stuck_trip, {"closed": None}), (crowded, {}),
                                   (is_trip, {"closed": None, "thing": None}),
                                   (is_stuck_trip, {"closed": None, "thing": None})):
                self.refused(errors.BadTold, function, dials=(4,), told=told, **more)
        for told in (((1,),), ((3,),) * 4, ((1,), (1,), (2,))):
            self.told(trip, dials=(4,), told=told, closed=())

    def test_what_is_not_closed(self):
        for closed in (None, [], [(1,)], ((0,),), ((0,), (1,)), ((2,), (1,)), ((1,), (1,)), ((4,),), ((True,),), (1,),
                       {}, "", {(1,): 1}, ((1, 1),)):
            for function, more in ((trip, {}), (trips_many, {}), (stuck_trip, {}), (is_trip, {"thing": None}),
                                   (is_stuck_trip, {"thing": None})):
                self.refused(errors.BadClosed, function, dials=(4,), told=((1,),), closed=closed, **more)
                self.refused(errors.BadClosed, function, dials=(8,), told=((1,),) * 8, closed=(None,), **more)
        self.assertIsNone(self.told(trip, dials=(4,), told=((1,),), closed=((1,), (2,), (3,))))


class Crowded(Case):

    def test_as_described(self):
        draw = random.Random(352)
        seen = set()
        for sizes in all_dials(24):
            n = math.prod(sizes)
            some = [drawn_told(draw, sizes, 24) for _ in range(2)]
            # Many moves of one part, and few others.
            for part in draw.sample(parts(sizes), min(3, len(parts(sizes)))):
                inside = draw.choices(part[1:] or own_places(sizes)[1:], k=draw.randint(1, n - 1))
                some.append(tuple(sorted(inside + draw.choices(own_places(sizes)[1:], k=draw.randint(0, 1)))))
            for told in some:
                found = self.told(crowded, dials=sizes, told=told)
                self.assertEqual(found, self.own(sizes, told))
                seen.add(found is None)
        self.assertEqual(seen, {True, False})

    def own(self, sizes, told):
        more = 0 if own_total(sizes, told) == nothing(sizes) else 1
        for part in parts(sizes):
            stays = max(1, sum(move not in part for move in told) + more)
            if len(part) * stays < len(told) + more:
                return part
        return None

    def test_all_told_moves_of_few_places(self):
        for sizes in ((2,), (3,), (4,), (2, 2), (5,), (6,)):
            rest = own_places(sizes)[1:]
            for many in range(1, math.prod(sizes) + 1):
                for told in itertools.combinations_with_replacement(rest, many):
                    found = crowded(sizes, told)
                    self.assertEqual(found, self.own(sizes, told))
                    if found is not None:
                        for closed in ((), tuple(rest[:1])):
                            self.assertEqual(trips_many(sizes, told, closed), 0)


class Facts(Case):

    def test_up_to_three_different_moves(self):
        for sizes in all_dials(24):
            rest = own_places(sizes)[1:]
            for many in (1, 2, 3):
                for told in list(itertools.combinations(rest, many))[:: 1 if len(rest) < 9 else 37]:
                    self.assertIsNotNone(trip(sizes, told, ()))

    def test_so_many_times_the_same_move(self):
        for sizes in all_dials(24):
            for move in own_places(sizes)[1:]:
                for k in range(1, min(7, math.prod(sizes)) + 1):
                    self.assertEqual(trip(sizes, (move,) * k, ()) is not None, k <= turn_of(sizes, move))
                    self.assertEqual(is_trip(sizes, (move,) * k, (), (move,) * k), k <= turn_of(sizes, move))

    def test_all_places_but_nothing(self):
        for sizes in all_dials(8):
            told = tuple(own_places(sizes)[1:])
            if one_half(sizes):
                own = sorted(tuple(own_steps(sizes, route)) for route in own_walks(sizes))
            else:
                own = sorted(tuple(own_steps(sizes, route + route[:1])) for route in own_round_walks(sizes))
            self.assertEqual(self.told(trips_many, dials=sizes, told=told, closed=()), len(own))
            self.assertIn(self.told(trip, dials=sizes, told=told, closed=()), own)
            for order in own[:20]:
                self.assertIs(is_trip(sizes, told, (), order), True)
