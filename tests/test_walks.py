"""Promise 50: tours, their steps, and walks."""

import itertools
import math
import random

from movedround import errors
from movedround.dials import whole
from movedround.walks import is_tour, is_walk, steps, walk, walks
from tests.judges import good_tour, good_walk, one_half, own_steps, own_walks
from tests.support import Case, all_dials, anything, near_misses, nothing, own_halves, own_minus, own_places, own_plus

BY_HAND = ((0, 0), (1, 1), (1, 2), (0, 2), (0, 1), (1, 0))


def drawn_tour(draw, sizes):
    first, *rest = own_places(sizes)
    draw.shuffle(rest)
    return (first, *rest)


def counted(sizes, j):
    """The digits of j: modulo the first size, then modulo the second one, and so on from there."""
    found = [j % sizes[0]]
    for size in sizes[1:]:
        found.append(j % size)
        j //= size
    return tuple(found)


def own_way(sizes):
    """The walk of dials whose first size is a power of two and all others are odd."""
    found = []
    for j in range(math.prod(sizes) // 2):
        digits = counted(sizes, j)
        found += [own_minus(sizes, nothing(sizes), digits), own_plus(sizes, digits, (1,) * len(sizes))]
    return tuple(found)


class Walks(Case):

    def test_examples_by_hand(self):
        self.assertEqual(own_way((2, 3)), BY_HAND)
        self.assertIs(self.told(is_walk, dials=(2, 3), thing=BY_HAND), True)
        self.assertEqual(self.told(steps, dials=(2, 3), tour=BY_HAND), [(1, 1), (0, 1), (1, 0), (0, 2), (1, 2)])
        self.assertEqual(self.told(walks, dials=(4,)), [((0,), (1,), (3,), (2,)), ((0,), (3,), (1,), (2,))])
        for sizes, many in (((2,), 1), ((4,), 2), ((6,), 4), ((8,), 24)):
            self.assertEqual(len(self.told(walks, dials=sizes)), many)

    def test_there_is_one_exactly_if_there_is_just_one_half(self):
        for sizes in all_dials(24):
            found = self.told(walk, dials=sizes)
            self.assertEqual(found is not None, one_half(sizes), sizes)
            if found is not None:
                self.assertTrue(good_walk(sizes, found))
                self.assertIs(self.told(is_walk, dials=sizes, thing=found), True)
                self.assertEqual([found[-1]], own_halves(sizes))
                self.assertEqual(found[-1], whole(sizes))

    def test_the_way_by_digits_is_a_walk(self):
        for sizes in all_dials(24):
            if sizes[0] in (2, 4, 8, 16) and all(size % 2 for size in sizes[1:]):
                self.assertIs(is_walk(sizes, own_way(sizes)), True)

    def test_all_walks(self):
        for sizes in all_dials(8):
            found = self.told(walks, dials=sizes)
            self.assertEqual(found, own_walks(sizes))
            self.assertEqual(bool(found), one_half(sizes))
            for each in found:
                self.assertEqual([each[-1]], own_halves(sizes))

    def test_steps(self):
        draw = random.Random(300)
        for sizes in all_dials(24):
            tour = drawn_tour(draw, sizes)
            found = self.told(steps, dials=sizes, tour=tour)
            self.assertEqual(found, own_steps(sizes, tour))
            self.assertEqual(len(found), math.prod(sizes) - 1)

    def test_what_is_no_tour(self):
        good = ((0,), (2,), (1,))
        self.told(steps, dials=(3,), tour=good)
        for tour in (list(good), good[:2], good + good[:1], ((0,), (1,), (1,)), ((1,), (0,), (2,)), good[::-1], None, (),
                     ((0,), (2,), (True,)), ((False,), (2,), (1,)), ((0,), (2,), (3,)), 0, {}, [0, 1, 2], (0, 2, 1)):
            self.refused(errors.BadTour, steps, dials=(3,), tour=tour)
            self.assertIs(self.told(is_tour, dials=(3,), thing=tour), False)
            self.assertIs(self.told(is_walk, dials=(3,), thing=tour), False)

    def test_any_value_is_judged_as_described(self):
        for sizes, valid in (((4,), ((0,), (1,), (3,), (2,))), ((2, 3), BY_HAND), ((2,), ((0,), (1,)))):
            for thing in anything() + list(near_misses(valid)):
                self.assertIs(self.told(is_tour, dials=sizes, thing=thing), good_tour(sizes, thing), thing)
                self.assertIs(self.told(is_walk, dials=sizes, thing=thing), good_walk(sizes, thing), thing)
        for sizes in all_dials(6):
            for order in itertools.permutations(own_places(sizes)):
                self.assertIs(is_tour(sizes, order), good_tour(sizes, order))
                self.assertIs(is_walk(sizes, order), good_walk(sizes, order))

    def test_too_many(self):
        for sizes in ((9,), (3, 3), (10,), (24,)):
            self.too_many(8, walks, dials=sizes)
