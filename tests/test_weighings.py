"""Promise 41: weighings, and those that bar."""

import itertools
import math
import random

from movedround import errors
from movedround.dealings import dealing
from movedround.unlike import unlike
from movedround.weighings import is_weighing, plain_bar, square_bar, weighed, weighings
from tests.support import Case, all_dials, anything, drawn_dealing, drawn_row, good_weighing, is_num, near_misses
from tests.support import own_halves, own_places, own_plus


def thirds(sizes):
    return [x for x in own_places(sizes) if any(x) and not any(own_plus(sizes, x, x, x))]


class Weighings(Case):

    def test_all_weights_tried(self):
        for sizes in ((2,), (3,), (4,), (2, 2), (5,), (6,)):
            places = own_places(sizes)
            for modulus in range(2, 7):
                tried = [(modulus, weights) for weights in itertools.product(range(modulus), repeat=len(places))
                         if weights[0] == 0 and good_weighing(sizes, (modulus, weights))]
                self.assertEqual(self.told(weighings, dials=sizes, modulus=modulus), tried)

    def test_as_many_as_the_product(self):
        for sizes in all_dials(24):
            for modulus in range(2, 25):
                found = weighings(sizes, modulus)
                self.assertEqual(len(found), math.prod(math.gcd(modulus, size) for size in sizes))
                self.assertEqual(found, sorted(set(found)))
                if modulus in (2, 3, 4, 24):
                    self.assertTrue(all(is_weighing(sizes, one) and good_weighing(sizes, one) for one in found))

    def test_modulus(self):
        self.assertEqual(len(self.told(weighings, dials=(4,), modulus=2)), 2)
        self.assertEqual(len(self.told(weighings, dials=(24,), modulus=24)), 24)
        for modulus in (1, 25, 0, -2, 999999999, 10 ** 30, True, False, None, "2", (2,), [2]):
            self.refused(errors.BadModulus, weighings, dials=(4,), modulus=modulus)
        self.assertIs(self.told(is_weighing, dials=(2,), thing=(1, (0, 0))), False)
        self.assertIs(self.told(is_weighing, dials=(2,), thing=(25, (0, 0))), False)
        self.assertIs(self.told(is_weighing, dials=(2,), thing=(24, (0, 12))), True)
        self.assertIs(self.told(is_weighing, dials=(2,), thing=(2, (0, 1))), True)

    def test_any_value_is_judged_as_described(self):
        for sizes, valid in (((2,), (2, (0, 1))), ((3,), (3, (0, 2, 1))), ((4,), (8, (0, 2, 4, 6))),
                             ((2, 2), (2, (0, 1, 1, 0))), ((6,), (24, (0,) * 6))):
            for thing in anything() + [valid] + list(near_misses(valid)):
                self.assertIs(self.told(is_weighing, dials=sizes, thing=thing), good_weighing(sizes, thing), thing)
        for thing in ((2, [0, 1]), [2, (0, 1)], (2, (0, True)), (2, (False, 1)), (True, (0, 0)), (2, (0, 1), 0), (2,),
                      (2, (1, 1)), (2, (0, 2)), (2, (0, -1)), (2, (0,)), (2, (0, 1, 0))):
            self.assertIs(self.told(is_weighing, dials=(2,), thing=thing), False, thing)

    def test_weighed(self):
        draw = random.Random(90)
        for sizes in all_dials(24):
            weighing = draw.choice(weighings(sizes, draw.randint(2, 24)))
            weigh = dict(zip(own_places(sizes), weighing[1]))
            for several in ([], own_places(sizes), draw.choices(own_places(sizes), k=5)):
                told = self.told(weighed, dials=sizes, weighing=weighing, several=several)
                self.assertEqual(told, sum(weigh[place] for place in several) % weighing[0])
                self.assertEqual(weighed(sizes, weighing, tuple(several)), told)
                self.assertTrue(is_num(told))
            self.assertEqual(self.told(weighed, dials=sizes, weighing=weighing, several=[]), 0)
        good = (2, (0, 1, 0, 1))
        for several in ([(4,)], [(True,)], (1,), [[1]], None, {}, {(0,): 1}, "0", 0):
            self.refused(errors.BadSeveral, weighed, dials=(4,), weighing=good, several=several)
        for weighing in ((2, (0, 1, 1, 0)), [2, (0, 1, 0, 1)], (2, [0, 1, 0, 1]), (2, (0, True, 0, 1)), None, (2, 2)):
            self.refused(errors.BadWeighing, weighed, dials=(4,), weighing=weighing, several=[])


class Bars(Case):

    def test_examples_by_hand(self):
        self.assertEqual(self.told(plain_bar, dials=(6,)), (2, (0, 1, 0, 1, 0, 1)))
        self.assertIsNone(self.told(plain_bar, dials=(3,)))
        self.assertEqual(self.told(square_bar, dials=(3,)), (3, (0, 1, 2)))
        self.assertIsNone(self.told(plain_bar, dials=(2, 4)))
        self.assertIsNone(self.told(square_bar, dials=(2, 4)))

    def test_the_first_of_all_weighings(self):
        for sizes in all_dials(24):
            every = [one for modulus in range(2, 25) for one in weighings(sizes, modulus)]
            self.assertEqual(every, sorted(every))
            plain = [one for one in every if sum(one[1]) % one[0]]
            square = [one for one in every if sum(weight * weight for weight in one[1]) % one[0]]
            self.assertEqual(self.told(plain_bar, dials=sizes), plain[0] if plain else None)
            self.assertEqual(self.told(square_bar, dials=sizes), square[0] if square else None)

    def test_what_bars_and_what_does_not(self):
        for sizes in all_dials(24):
            n = math.prod(sizes)
            plain, square = plain_bar(sizes), square_bar(sizes)
            self.assertEqual(plain is None, len(own_halves(sizes)) != 1)
            self.assertEqual(plain is None, unlike(sizes) is not None)
            self.assertEqual(square is None, len(own_halves(sizes)) != 1 and len(thirds(sizes)) != 2)
            if plain is not None:
                self.assertEqual(plain[0], n & -n)
                self.assertIsNotNone(square)
            if square is not None:
                self.assertIn(square[0], (2, 4, 8, 16, 3, 9))

    def test_a_row_has_a_dealing_exactly_if_all_weighings_let_it(self):
        draw = random.Random(91)
        for sizes in all_dials(24):
            every = [one for modulus in range(2, 25) for one in weighings(sizes, modulus)]
            moves = drawn_dealing(draw, sizes)
            self.assertTrue(all(weighed(sizes, one, moves) == 0 for one in every[::7]))
            row = drawn_row(draw, sizes, draw.choice(own_places(sizes)))
            lets = all(weighed(sizes, one, row) == 0 for one in every)
            self.assertEqual(lets, dealing(sizes, row) is not None)
