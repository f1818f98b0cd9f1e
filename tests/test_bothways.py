"""Promise 46: dealings both ways; what stands beside one another; and the bars of promise 41."""

import itertools
import math
import random

from movedround import errors
from movedround.apart import are_apart
from movedround.bothways import both, boths, is_both, quarter, thirds
from movedround.mutual import is_mutual, mutuals
from movedround.sides import beside
from movedround.straight import is_straight, multiplied, straights
from movedround.unlike import unlike
from movedround.weighings import plain_bar, square_bar
from tests.judges import good_both, good_mutual, good_straight, own_thirds
from tests.support import Case, all_dials, anything, near_misses, own_ends, own_halves, own_minus, own_places
from tests.support import own_unlike

TWICE = ((0,), (2,), (4,), (1,), (3,))


def is_to_be(sizes):
    return len(own_halves(sizes)) != 1 and len(own_thirds(sizes)) != 2


class BothWays(Case):

    def test_examples(self):
        self.assertEqual(multiplied((5,), 2), TWICE)
        self.assertIs(self.told(is_both, dials=(5,), thing=TWICE), True)
        self.assertEqual(own_ends((5,), TWICE), [(0,), (3,), (1,), (4,), (2,)])
        self.assertEqual([own_minus((5,), move, (at,)) for at, move in enumerate(TWICE)], [(at,) for at in range(5)])
        for sizes, many in (((5,), 10), ((7,), 28), ((2, 4), 128), ((3, 3), 648), ((9,), 0)):
            self.assertEqual(len(self.told(boths, dials=sizes)), many)

    def test_thirds(self):
        for sizes in all_dials(24):
            self.assertEqual(self.told(thirds, dials=sizes), own_thirds(sizes))
        self.assertEqual(thirds((6,)), [(2,), (4,)])
        self.assertEqual(len(thirds((3, 3))), 8)

    def test_there_is_one_exactly_if_halves_and_thirds_let_it(self):
        for sizes in all_dials(24):
            found = self.told(both, dials=sizes)
            self.assertEqual(found is not None, is_to_be(sizes), sizes)
            if len(sizes) == 1:
                self.assertEqual(found is not None, math.gcd(sizes[0], 6) == 1)
            if found is not None:
                self.assertTrue(good_both(sizes, found))

    def test_all_both_ways(self):
        for sizes in all_dials(9):
            own = [moves for moves in own_unlike(sizes) if good_both(sizes, moves)]
            self.assertEqual(self.told(boths, dials=sizes), own)
            self.assertEqual(bool(own), is_to_be(sizes))

    def test_no_square_bar(self):
        for sizes in all_dials(24):
            self.assertEqual(square_bar(sizes) is None, both(sizes) is not None, sizes)
            self.assertEqual(plain_bar(sizes) is None, unlike(sizes) is not None, sizes)

    def test_a_board_without_two_in_a_line(self):
        for size in (5, 7, 11, 13, 17, 19, 23):
            moves = both((size,))
            pieces = [(at, move[0]) for at, move in enumerate(moves)]
            for (row, column), (other_row, other_column) in itertools.combinations(pieces, 2):
                self.assertNotEqual(column, other_column)
                self.assertNotEqual((column - row) % size, (other_column - other_row) % size)
                self.assertNotEqual((column + row) % size, (other_column + other_row) % size)

    def test_quarter(self):
        draw = random.Random(220)
        for sizes in all_dials(24):
            some = [both(sizes)] if is_to_be(sizes) else []
            if math.prod(sizes) <= 8:
                some += draw.sample(boths(sizes), min(10, len(boths(sizes))))
            for moves in some:
                found = self.told(quarter, dials=sizes, dealing=moves)
                self.assertTrue(good_both(sizes, found))
                move_of = dict(zip(own_places(sizes), found))
                for person, move in zip(own_places(sizes), moves):
                    self.assertEqual(move_of[move], own_minus(sizes, own_places(sizes)[0], person))
                again = moves
                for _ in range(4):
                    again = quarter(sizes, again)
                self.assertEqual(again, moves)

    def test_if_n_is_odd(self):
        draw = random.Random(221)
        for sizes in all_dials(24):
            if math.prod(sizes) % 2 == 1:
                some = [unlike(sizes)] + ([both(sizes)] if is_to_be(sizes) else [])
                if math.prod(sizes) <= 9:
                    some += draw.sample(own_unlike(sizes), min(60, len(own_unlike(sizes))))
                for moves in some:
                    told = self.told(is_both, dials=sizes, thing=moves)
                    self.assertIs(told, good_both(sizes, moves))
                    self.assertIs(told, are_apart(sizes, moves, multiplied(sizes, 1)))

    def test_any_value_is_judged_as_described(self):
        for sizes, valid in (((5,), TWICE), ((2, 2), both((2, 2))), ((2, 4), both((2, 4)))):
            for thing in anything() + list(near_misses(valid)):
                self.assertIs(self.told(is_both, dials=sizes, thing=thing), good_both(sizes, thing), thing)
        for sizes in all_dials(7):
            for moves in own_unlike(sizes):
                self.assertIs(is_both(sizes, moves), good_both(sizes, moves))

    def test_wrong_arguments(self):
        once = tuple((at,) for at in range(9))
        self.refused(errors.BadBoth, quarter, dials=(9,), dealing=once)
        for moves in (None, list(TWICE), TWICE[:4], ((0,),) * 5, unlike((5,))[::-1][:4], TWICE[:3] + ((True,), (3,))):
            self.refused(errors.BadBoth, quarter, dials=(5,), dealing=moves)
        for sizes in ((10,), (2, 5), (11,), (24,)):
            self.too_many(9, boths, dials=sizes)


class BesideOneAnother(Case):

    def some(self, draw, sizes):
        """Unlike dealings, straight ones, mutual ones and both ways, and others."""
        if math.prod(sizes) <= 9:
            every = own_unlike(sizes)
            some = draw.sample(every, min(3, len(every))) + straights(sizes)[:2]
            return some + mutuals(sizes)[:2] + boths(sizes)[:2]
        moves = [unlike(sizes), both(sizes), multiplied(sizes, 1), multiplied(sizes, -2)]
        return [each for each in moves if each is not None]

    def test_beside_is_so_exactly_if_both_parts_are(self):
        draw = random.Random(222)
        seen = set()
        for one, other in itertools.product(all_dials(12), repeat=2):
            if math.prod(one + other) > 24 or len(one + other) > 4:
                continue
            for first, second in itertools.product(self.some(draw, one), self.some(draw, other)):
                found = beside(one, first, other, second)
                for judge, own in ((is_straight, good_straight), (is_mutual, good_mutual), (is_both, good_both)):
                    told = judge(one + other, found)
                    self.assertIs(told, own(one, first) and own(other, second))
                    seen.add((judge.__name__, told))
        self.assertEqual(len(seen), 6)
