"""Promise 53: halved dials, mirrored walks and lifts."""

import itertools
import math
import random

from movedround import errors
from movedround.fairtours import fair_many, fair_tour
from movedround.lifts import half_tour, halved, halved_place, is_mirrored, lifts, mirrored_many
from movedround.swings import walked_back
from movedround.walks import walk
from tests.judges import good_fair, good_mirrored, one_half, own_fair_tours, own_halved, own_halved_place, own_walks
from tests.support import Case, all_dials, anything, near_misses, nothing, own_halves, own_minus, own_places, own_plus
from tests.test_swings import some_walks

FAIR3 = ((0,), (1,), (2,))
LIFTS3 = [((0,), (1,), (5,), (2,), (4,), (3,)), ((0,), (4,), (5,), (2,), (1,), (3,))]


def can_be_halved(sizes):
    return one_half(sizes) and math.prod(sizes) > 2


def kinds_many(sizes):
    """How many places but nothing there are, x and nothing less x counted as one."""
    return len({frozenset((x, own_minus(sizes, nothing(sizes), x))) for x in own_places(sizes)[1:]})


class Halved(Case):

    def test_examples_by_hand(self):
        self.assertEqual(self.told(halved, dials=(6,)), (3,))
        self.assertEqual(self.told(lifts, dials=(6,), tour=FAIR3), LIFTS3)
        self.assertEqual(own_fair_tours((3,)), [FAIR3, ((0,), (2,), (1,))])
        self.assertTrue(all(is_mirrored((6,), route) for route in own_walks((6,))))
        self.assertEqual(len(own_walks((6,))), 4)
        self.assertEqual([is_mirrored((8,), route) for route in own_walks((8,))].count(True), 8)
        for sizes, many in (((6,), 4), ((8,), 8), ((10,), 48)):
            self.assertEqual(self.told(mirrored_many, dials=sizes), many)

    def test_halved_dials_and_places(self):
        for sizes in all_dials(24):
            if not can_be_halved(sizes):
                continue
            smaller = self.told(halved, dials=sizes)
            self.assertEqual(smaller, own_halved(sizes))
            half = own_halves(sizes)[0]
            names = {x: self.told(halved_place, dials=sizes, place=x) for x in own_places(sizes)}
            self.assertEqual(names, {x: own_halved_place(sizes, x) for x in names})
            self.assertEqual(sorted(set(names.values())), own_places(smaller))
            for x, y in itertools.product(names, repeat=2):
                self.assertEqual(names[own_plus(sizes, x, y)], own_plus(smaller, names[x], names[y]))
                self.assertEqual(names[x] == names[y], x == y or x == own_plus(sizes, y, half))
        self.assertEqual(halved((2, 3)), (3,))
        self.assertEqual(halved((3, 2, 3)), (3, 3))
        self.assertEqual(halved((3, 8)), (3, 4))
        self.assertEqual(halved_place((3, 2, 3), (2, 1, 1)), (2, 1))

    def test_not_one_half(self):
        for sizes in all_dials(24):
            if not can_be_halved(sizes):
                for told in ({"place": None}, {"walk": None}, {"tour": None}, {}):
                    for function in (halved_place, half_tour, lifts, halved, mirrored_many):
                        names = function.__code__.co_varnames[1:function.__code__.co_argcount]
                        if set(names) == set(told):
                            self.refused(errors.NotOneHalf, function, dials=sizes, **told)
                self.assertIs(self.told(is_mirrored, dials=sizes, thing=None), False)
        self.refused(errors.NotOneHalf, halved, dials=(2,))
        self.refused(errors.NotOneHalf, half_tour, dials=(2,), walk=((0,), (1,)))
        self.assertIs(self.told(is_mirrored, dials=(2,), thing=((0,), (1,))), True)
        for sizes in ((1,), (25,), (), None, (True, 2), [6]):
            self.refused(errors.BadDials, halved, dials=sizes)
            self.refused(errors.BadDials, lifts, dials=sizes, tour=None)


class Mirrored(Case):

    def test_the_walk_by_digits_is_mirrored(self):
        for sizes in all_dials(24):
            if one_half(sizes):
                self.assertEqual(walked_back(sizes, walk(sizes)), walk(sizes))
                self.assertIs(self.told(is_mirrored, dials=sizes, thing=walk(sizes)), True)

    def test_half_tour(self):
        draw = random.Random(330)
        for sizes in all_dials(24):
            for route in some_walks(draw, sizes) if can_be_halved(sizes) else []:
                if not good_mirrored(sizes, route):
                    self.refused(errors.BadMirrored, half_tour, dials=sizes, walk=route)
                    continue
                found = self.told(half_tour, dials=sizes, walk=route)
                own = tuple(own_halved_place(sizes, place) for place in route[:len(route) // 2])
                self.assertEqual(found, own)
                self.assertTrue(good_fair(own_halved(sizes), found))
                self.assertIn(route, lifts(sizes, found))
                half = own_halves(sizes)[0]
                middle = len(route) // 2
                self.assertEqual(route[middle:], tuple(own_plus(sizes, place, half) for place in route[:middle][::-1]))

    def test_any_value_is_judged_as_described(self):
        for sizes, valid in (((6,), LIFTS3[0]), ((2,), ((0,), (1,))), ((4,), walk((4,))), ((2, 3), walk((2, 3)))):
            for thing in anything() + list(near_misses(valid)):
                self.assertIs(self.told(is_mirrored, dials=sizes, thing=thing), good_mirrored(sizes, thing), thing)
                if can_be_halved(sizes) and not good_mirrored(sizes, thing):
                    self.refused(errors.BadMirrored, half_tour, dials=sizes, walk=thing)
        for route in own_walks((8,)):
            self.assertIs(is_mirrored((8,), route), good_mirrored((8,), route))
        self.assertEqual({good_mirrored((8,), route) for route in own_walks((8,))}, {True, False})
        for sizes in ((3,), (2, 2), (5,)):
            for thing in anything() + [tuple(own_places(sizes))]:
                self.assertIs(self.told(is_mirrored, dials=sizes, thing=thing), False)


class Lifts(Case):

    def test_each_fair_tour_is_lifted(self):
        for sizes in all_dials(16):
            if not can_be_halved(sizes):
                continue
            smaller = own_halved(sizes)
            tours = own_fair_tours(smaller) if math.prod(smaller) <= 7 else own_fair_tours(smaller)[::40]
            for tour in tours:
                found = lifts(sizes, tour)
                self.assertEqual(len(found), 2 ** kinds_many(smaller))
                self.assertEqual(found, sorted(set(found)))
                for route in found:
                    self.assertTrue(good_mirrored(sizes, route))
                    self.assertEqual(half_tour(sizes, route), tour)
            self.told(lifts, dials=sizes, tour=tours[0])

    def test_all_mirrored_walks_are_lifts(self):
        for sizes in all_dials(8):
            if can_be_halved(sizes):
                own = [route for route in own_walks(sizes) if good_mirrored(sizes, route)]
                for tour in own_fair_tours(own_halved(sizes)):
                    self.assertEqual(lifts(sizes, tour), [route for route in own if half_tour(sizes, route) == tour])
                self.assertEqual(self.told(mirrored_many, dials=sizes), len(own))

    def test_lifts_of_many_places(self):
        for sizes in ((18,), (2, 3, 3), (20,), (22,), (24,), (3, 8), (2, 9)):
            smaller = own_halved(sizes)
            tour = fair_tour(smaller)
            found = self.told(lifts, dials=sizes, tour=tour)
            self.assertEqual(len(found), 2 ** kinds_many(smaller))
            self.assertTrue(all(good_mirrored(sizes, route) for route in found))
            self.assertTrue(all(half_tour(sizes, route) == tour for route in found))

    def test_mirrored_many(self):
        for sizes in all_dials(24):
            if can_be_halved(sizes):
                smaller = own_halved(sizes)
                if math.prod(sizes) > 16:
                    self.too_many(16, mirrored_many, dials=sizes)
                else:
                    found = self.told(mirrored_many, dials=sizes)
                    self.assertEqual(found, 2 ** kinds_many(smaller) * fair_many(smaller))
                    self.assertEqual(found, 2 ** kinds_many(smaller) * len(own_fair_tours(smaller)))
        self.refused(errors.NotOneHalf, mirrored_many, dials=(17,))
        self.refused(errors.NotOneHalf, mirrored_many, dials=(2, 12))

    def test_what_is_no_fair_tour_of_the_halved_dials(self):
        for tour in (None, list(FAIR3), FAIR3[:2], FAIR3[::-1], walk((6,)), ((0,), (1,), (True,)), (), 0, {},
                     ((0,), (1,), (1,)), ((0,), (1,), (3,)), ((False,), (1,), (2,))):
            self.refused(errors.BadFair, lifts, dials=(6,), tour=tour)
        self.refused(errors.BadFair, lifts, dials=(10,), tour=tuple(own_places((5,))))
        self.refused(errors.BadFair, lifts, dials=(2, 5), tour=tuple(own_places((5,))))
        self.told(lifts, dials=(2, 5), tour=fair_tour((5,)))
