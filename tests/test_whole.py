"""Over the whole program: what is told alike by many of its functions."""

import math
import random

from movedround import errors
from movedround.bymoves import is_trip
from movedround.cuts import cuts, is_cut
from movedround.dealings import dealing, is_dealing, row_of
from movedround.behind import behind, rounds, still
from movedround.dials import halves, places, total, whole
from movedround.groups import group_of
from movedround.hall import Hall
from movedround.mates import is_parting, parting, shift_parting
from movedround.mixings import mixing
from movedround.roundwalks import is_round_walk, led, left_out, round_walk, round_walks, route_of
from movedround.seatings import seating
from movedround.lots import is_seating
from movedround.shades import comes_to_nothing
from movedround.squares import square
from movedround.unlike import is_near, is_unlike, near, unlike
from movedround.walks import is_walk, steps, walk, walks
from movedround.weighings import plain_bar
from tests.support import Case, all_dials, nothing, own_halves, own_minus, own_places, own_plus, own_total


class OneHalf(Case):

    def test_just_one_half_is_told_alike(self):
        for sizes in all_dials(24):
            one = len(halves(sizes)) == 1
            row = tuple(places(sizes))
            self.assertEqual(len(own_halves(sizes)) == 1, one)
            self.assertEqual(whole(sizes) != nothing(sizes), one)
            self.assertEqual(whole(sizes), halves(sizes)[0] if one else nothing(sizes))
            self.assertEqual(dealing(sizes, row) is None, one)
            self.assertEqual(unlike(sizes) is None, one)
            self.assertEqual(plain_bar(sizes) is not None, one)
            self.assertEqual(walk(sizes) is not None, one)
            self.assertEqual(round_walk(sizes) is None, one)
            self.assertEqual(seating(sizes, row, row) is None, one)
            self.look_at_near(sizes, one)
            if math.prod(sizes) <= 12:
                group = group_of(sizes)
                self.assertEqual(comes_to_nothing(group), not one)
                self.assertEqual(mixing(group) is None, one)
            if math.prod(sizes) <= 7:
                self.assertEqual(cuts(sizes, square(sizes)) == [], one)
            if math.prod(sizes) <= 6:
                self.assertEqual(parting(sizes, square(sizes)) is None, one)

    def look_at_near(self, sizes, one):
        if one:
            for move in places(sizes):
                self.assertIs(is_near(sizes, move, near(sizes, move)), True)
        else:
            self.assertIs(is_unlike(sizes, unlike(sizes)), True)
            for move in places(sizes):
                self.refused(errors.NotOneHalf, near, dials=sizes, move=move)


class Routes(Case):

    def look_at(self, sizes, route):
        """The dealing that leads along a route: done again and again, its seating, its trip, its cut and its parting."""
        moves = led(sizes, route)
        self.assertIs(is_dealing(sizes, moves), True)
        self.assertEqual(route_of(sizes, moves), route)
        self.look_round(sizes, route, moves)
        lot = tuple(places(sizes))
        self.assertIs(is_seating(sizes, lot, row_of(sizes, moves), moves), True)
        self.assertIsNotNone(seating(sizes, lot, row_of(sizes, moves)))
        is_round = len(route) < len(lot)
        taken = tuple(steps(sizes, route)) if not is_round else self.steps_home(sizes, route)
        self.assertIs(is_trip(sizes, lot[1:], (), taken), True)
        self.assertIs(is_cut(sizes, square(sizes), moves), is_round)
        self.assertIs(is_unlike(sizes, moves), is_round)
        if is_round:
            self.assertIs(is_parting(sizes, square(sizes), shift_parting(sizes, moves)), True)
            # Who is not in it stays: the person who is left out.
            self.assertEqual(moves[lot.index(left_out(sizes, route))], nothing(sizes))

    def steps_home(self, sizes, route):
        return tuple(own_minus(sizes, there, here) for here, there in zip(route, route[1:] + route[:1]))

    def look_round(self, sizes, route, moves):
        """Done as often as the route has places all are back, and not before; a hall goes just so."""
        behind_all = moves
        hall = Hall(sizes)
        hall.come(tuple(places(sizes)))
        for number in range(1, len(route)):
            self.assertNotEqual(behind_all, still(sizes))
            self.assertEqual(own_plus(sizes, nothing(sizes), behind_all[0]), route[number])
            behind_all = behind(sizes, behind_all, moves)
        self.assertEqual(behind_all, still(sizes))
        self.assertEqual(max(len(each) for each in rounds(sizes, moves)), len(route))
        for _ in range(2):
            for person, move in zip(places(sizes), moves):
                hall.take(person, move)
            hall.go()
        self.assertEqual(hall.tracks()[route[2 % len(route)]], tuple(route[at % len(route)] for at in range(3)))

    def test_a_route_of_all_dials(self):
        for sizes in all_dials(24):
            route = walk(sizes) or round_walk(sizes)
            self.assertIsNone(walk(sizes) and round_walk(sizes))
            self.assertTrue(is_walk(sizes, route) or is_round_walk(sizes, route))
            self.look_at(sizes, route)

    def test_all_routes_of_few_places(self):
        for sizes in all_dials(7):
            for route in walks(sizes) + round_walks(sizes):
                self.look_at(sizes, route)


class Heart(Case):

    def test_a_dealing_exactly_if_the_moves_come_to_nothing(self):
        """Told by a dealing, a seating of all places, and a hall with somebody at each place."""
        draw = random.Random(990)
        seen = set()
        for sizes in all_dials(24):
            for _ in range(3):
                moves = [draw.choice(own_places(sizes)) for _ in own_places(sizes)]
                if draw.random() < 0.5:
                    moves[0] = own_minus(sizes, nothing(sizes), own_total(sizes, moves[1:]))
                row = tuple(sorted(moves))
                fits = total(sizes, row) == nothing(sizes)
                seen.add(fits)
                self.assertEqual(dealing(sizes, row) is not None, fits)
                self.assertEqual(seating(sizes, tuple(own_places(sizes)), row) is not None, fits)
                hall = Hall(sizes)
                hall.come(tuple(own_places(sizes)))
                for move in moves[1:]:
                    hall.hand(move, *draw.sample(hall.free(), 2))
                last, = hall.free()
                self.assertEqual(hall.owner(own_plus(sizes, last, moves[0])) is None, fits)
        self.assertEqual(seen, {True, False})
