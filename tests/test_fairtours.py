"""Promise 52: fair tours."""

import math
import random

from movedround import errors
from movedround.fairtours import fair_many, fair_tour, fair_tours, is_fair
from movedround.walks import walk
from tests.judges import all_tours, good_fair, one_half, own_fair_tours, own_steps, own_walks
from tests.support import Case, all_dials, anything, near_misses, own_halves
from tests.test_swings import some_walks

FAIR5 = ((0,), (1,), (4,), (2,), (3,))


class FairTours(Case):

    def test_examples_by_hand(self):
        self.assertIs(self.told(is_fair, dials=(5,), thing=FAIR5), True)
        self.assertEqual(own_steps((5,), FAIR5), [(1,), (3,), (3,), (1,)])
        many = {(2,): 1, (3,): 2, (4,): 2, (2, 2): 0, (5,): 12, (6,): 22, (7,): 72, (8,): 232, (2, 4): 80, (2, 2, 2): 0}
        for sizes, told in many.items():
            self.assertEqual(self.told(fair_many, dials=sizes), told)

    def test_walks_are_fair(self):
        draw = random.Random(320)
        for sizes in all_dials(24):
            for route in some_walks(draw, sizes):
                self.assertIs(is_fair(sizes, route), True)
        for sizes in all_dials(7):
            self.assertLessEqual(set(own_walks(sizes)), set(fair_tours(sizes)))

    def test_a_fair_tour_where_there_is_one(self):
        for sizes in all_dials(24):
            halves = len(own_halves(sizes))
            if halves > 1 and math.prod(sizes) > 12:
                self.too_many(12, fair_tour, dials=sizes)
                continue
            found = self.told(fair_tour, dials=sizes)
            if halves <= 1:
                self.assertIsNotNone(found)
            if halves == math.prod(sizes) - 1 > 1:
                self.assertIsNone(found)
            if found is not None:
                self.assertTrue(good_fair(sizes, found))
            if math.prod(sizes) <= 8:
                self.assertEqual(found is None, not own_fair_tours(sizes))
        for sizes in ((2, 4), (4, 2), (2, 6), (6, 2), (2, 2, 3), (2, 3, 2), (3, 2, 2)):
            self.assertTrue(good_fair(sizes, fair_tour(sizes)))
        for sizes in ((2, 2), (2, 2, 2)):
            self.assertIsNone(fair_tour(sizes))

    def test_all_fair_tours(self):
        for sizes in all_dials(8):
            if math.prod(sizes) <= 7:
                self.assertEqual(self.told(fair_tours, dials=sizes), own_fair_tours(sizes))
            self.assertEqual(self.told(fair_many, dials=sizes), len(own_fair_tours(sizes)))

    def test_any_value_is_judged_as_described(self):
        for sizes, valid in (((5,), FAIR5), ((6,), walk((6,))), ((2,), ((0,), (1,))), ((2, 4), fair_tour((2, 4)))):
            for thing in anything() + list(near_misses(valid)):
                self.assertIs(self.told(is_fair, dials=sizes, thing=thing), good_fair(sizes, thing), thing)
        for sizes in all_dials(7):
            for tour in all_tours(sizes):
                self.assertIs(is_fair(sizes, tour), good_fair(sizes, tour))

    def test_too_many(self):
        for sizes in ((8,), (2, 4), (9,), (24,)):
            self.too_many(7, fair_tours, dials=sizes)
        for sizes in ((9,), (3, 3), (10,), (24,)):
            self.too_many(8, fair_many, dials=sizes)
        for sizes in ((2, 8), (4, 4), (2, 10), (2, 2, 2, 2), (2, 2, 6)):
            self.too_many(12, fair_tour, dials=sizes)
        for sizes in ((13,), (14,), (3, 5), (16,), (24,), (8, 3), (3, 7), (23,)):
            self.assertEqual(len(own_halves(sizes)), 1 - math.prod(sizes) % 2)
            self.told(fair_tour, dials=sizes)
        self.assertTrue(one_half((14,)))
        self.refused(errors.BadDials, fair_tour, dials=(2, 13))
