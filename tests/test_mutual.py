"""Promise 47: dealings by their rounds, and mutual ones."""

import math
import random

from movedround import errors
from movedround.behind import rounds
from movedround.mutual import from_rounds, is_mutual, mutuals
from movedround.straight import multiplied
from movedround.unlike import unlike
from tests.judges import good_mutual, good_rounds, own_times
from tests.support import Case, all_dials, anything, drawn_dealing, near_misses, nothing, own_ends, own_minus
from tests.support import own_places, own_plus, own_unlike

ROUNDS7 = [[(0,)], [(1,), (2,), (4,)], [(3,), (6,), (5,)]]


def drawn_rounds(draw, sizes):
    """Lists that have each place once in all."""
    left = own_places(sizes)
    draw.shuffle(left)
    found = []
    while left:
        many = draw.randint(1, len(left))
        found.append(left[:many])
        left = left[many:]
    return found


def least_first(one_round):
    at = one_round.index(min(one_round))
    return one_round[at:] + one_round[:at]


class FromRounds(Case):

    def test_example(self):
        once = multiplied((7,), 1)
        self.assertEqual(rounds((7,), once), ROUNDS7)
        self.assertEqual(self.told(from_rounds, dials=(7,), rounds=ROUNDS7), once)

    def test_each_comes_to_the_place_behind(self):
        draw = random.Random(230)
        for sizes in all_dials(24):
            for _ in range(3):
                lists = drawn_rounds(draw, sizes)
                found = self.told(from_rounds, dials=sizes, rounds=lists)
                end_of = dict(zip(own_places(sizes), own_ends(sizes, found)))
                for each in lists:
                    self.assertEqual([end_of[place] for place in each], each[1:] + each[:1])
                self.assertEqual(rounds(sizes, found), sorted(least_first(each) for each in lists))
                self.assertEqual(from_rounds(sizes, tuple(tuple(each) for each in lists)), found)
                moves = drawn_dealing(draw, sizes)
                self.assertEqual(from_rounds(sizes, rounds(sizes, moves)), moves)

    def test_rounds_of_multiplied(self):
        for sizes in all_dials(24):
            for number in range(-25, 26):
                moves = multiplied(sizes, number)
                if moves is None:
                    continue
                for one_round in rounds(sizes, moves):
                    for x in one_round:
                        k, factor = 1, number + 1
                        while own_times(sizes, x, factor) != x:
                            k, factor = k + 1, factor * (number + 1)
                        self.assertEqual(len(one_round), k)

    def test_what_are_no_rounds(self):
        good = [[(0,), (1,)], [(2,)]]
        self.told(from_rounds, dials=(3,), rounds=good)
        self.told(from_rounds, dials=(3,), rounds=(((0,), (1,)), ((2,),)))
        for thing in ([[(0,), (1,)], [(2,)], []], [[(0,), (1,)]], [[(0,), (1,)], [(1,)]], [[(0,), (1,)], [(2,), (2,)]],
                      [(0,), (1,), (2,)], ((0,), (1,), (2,)), [[(0,), (1,), (2,), (0,)]], [[(0,), (1,), (3,)]], [], [[]],
                      [[(0,), (True,)], [(2,)]], [[(False,), (1,)], [(2,)]], [{(0,): 0, (1,): 1, (2,): 2}], None, 0,
                      {0: [(0,), (1,), (2,)]}, [[[0], [1], [2]]], "", [None], [[None]]):
            self.refused(errors.BadRounds, from_rounds, dials=(3,), rounds=thing)
        for thing in anything() + list(near_misses(good)):
            if not good_rounds((3,), thing):
                self.refused(errors.BadRounds, from_rounds, dials=(3,), rounds=thing)
            else:
                self.told(from_rounds, dials=(3,), rounds=thing)


class Mutual(Case):

    def test_examples(self):
        for sizes, many in (((3,), 1), ((5,), 1), ((7,), 3), ((9,), 9), ((3, 3), 9), ((11,), 25), ((13,), 133)):
            found = self.told(mutuals, dials=sizes)
            self.assertEqual(len(found), many)
            self.assertEqual(found, sorted(set(found)))
            self.assertTrue(all(good_mutual(sizes, moves) for moves in found))

    def test_all_mutual_ones(self):
        for sizes in all_dials(9):
            own = [moves for moves in own_unlike(sizes) if good_mutual(sizes, moves)]
            self.assertEqual(self.told(mutuals, dials=sizes), own)
        for sizes in all_dials(13):
            self.assertEqual(bool(mutuals(sizes)), math.prod(sizes) % 2 == 1)

    def test_each_changes_places_with_nothing_less_it(self):
        for sizes in all_dials(24):
            moves = multiplied(sizes, -2)
            self.assertEqual(moves is not None, math.prod(sizes) % 2 == 1)
            if moves is not None:
                self.assertIs(self.told(is_mutual, dials=sizes, thing=moves), True)
                own = [own_minus(sizes, nothing(sizes), x) for x in own_places(sizes)]
                self.assertEqual(own_ends(sizes, moves), own)
                if math.prod(sizes) <= 13:
                    self.assertIn(moves, mutuals(sizes))

    def test_just_one_stays(self):
        for sizes in all_dials(24):
            some = own_unlike(sizes)[:30] if math.prod(sizes) <= 9 else [unlike(sizes)]
            for moves in some:
                if moves is not None:
                    self.assertEqual(sum(x == end for x, end in zip(own_places(sizes), own_ends(sizes, moves))), 1)

    def test_any_value_is_judged_as_described(self):
        for sizes, valid in (((7,), mutuals((7,))[0]), ((3,), mutuals((3,))[0]), ((3, 3), mutuals((3, 3))[4])):
            for thing in anything() + list(near_misses(valid)):
                self.assertIs(self.told(is_mutual, dials=sizes, thing=thing), good_mutual(sizes, thing), thing)
        for sizes in all_dials(7):
            for moves in own_unlike(sizes):
                self.assertIs(is_mutual(sizes, moves), good_mutual(sizes, moves))
        # They change places two by two, but it is another one who stays.
        moves = from_rounds((3,), [[(1,)], [(0,), (2,)]])
        self.assertTrue(sorted(moves) == own_places((3,)) and own_plus((3,), (1,), moves[1]) == (1,))
        self.assertIs(is_mutual((3,), moves), False)
        # They change places two by two, but two have the same move.
        self.assertIs(is_mutual((4,), from_rounds((4,), [[(0,)], [(2,)], [(1,), (3,)]])), False)

    def test_too_many(self):
        for sizes in ((14,), (15,), (2, 7), (24,)):
            self.too_many(13, mutuals, dials=sizes)
        self.assertEqual(self.told(mutuals, dials=(12,)), [])
