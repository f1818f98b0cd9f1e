"""Promise 33: changes of few persons, paths and pools."""

import itertools
import random

from movedround import errors
from movedround.balances import is_even
from movedround.changes import changes, differ, is_pool, least_most, path, pool
from movedround.manydealings import all_dealings
from tests.support import MANY9, MANY10, ROW_300, ROW_306, Case, all_dials, all_rows, anything, dealings_by_row
from tests.support import dealings_of, drawn_dealing, fewest, near_misses, own_ends, own_places

ROW3 = ((0,), (1,), (2,))


def unlike_persons(one, other):
    return sum(move != another for move, another in zip(one, other))


def own_changes(some, moves, most):
    return [other for other in some if other != moves and unlike_persons(moves, other) <= most]


def own_pool(some, moves, most):
    return sorted(fewest([moves], lambda here: own_changes(some, here, most)))


def good_pool(some, most, thing):
    if type(thing) not in (list, tuple) or not thing:
        return False
    places = [moves for moves in thing if type(moves) is tuple and all(
        type(move) is tuple and all(type(at) is int for at in move) for move in moves)]
    if len(places) != len(thing) or not all(moves in some for moves in thing) or sorted(set(thing)) != list(thing):
        return False
    return all(other in thing for moves in thing for other in own_changes(some, moves, most))


class Changes(Case):

    def test_example_by_hand(self):
        some = [((0,), (1,), (2,)), ((1,), (2,), (0,)), ((2,), (0,), (1,))]
        for one, other in itertools.permutations(some, 2):
            self.assertEqual(self.told(differ, dials=(3,), one=one, other=other), own_places((3,)))
            self.assertIsNone(self.told(path, dials=(3,), one=one, other=other, most=2))
            self.assertEqual(self.told(path, dials=(3,), one=one, other=other, most=3), [one, other])
        self.assertEqual(self.told(least_most, dials=(3,), row=ROW3), 3)
        for moves in some:
            self.assertEqual(self.told(pool, dials=(3,), dealing=moves, most=2), [moves])
            self.assertIs(self.told(is_pool, dials=(3,), row=ROW3, most=2, thing=[moves]), True)
            self.assertIs(self.told(is_pool, dials=(3,), row=ROW3, most=3, thing=[moves]), False)

    def test_differ(self):
        draw = random.Random(60)
        for sizes in all_dials(24):
            one, other = drawn_dealing(draw, sizes), drawn_dealing(draw, sizes)
            own = [person for person, a, b in zip(own_places(sizes), one, other) if a != b]
            self.assertEqual(self.told(differ, dials=sizes, one=one, other=other), own)
            self.assertEqual(self.told(differ, dials=sizes, one=one, other=one), [])

    def test_all_rows_of_few_places(self):
        for sizes in ((2,), (3,), (4,), (2, 2), (5,)):
            for row, some in dealings_by_row(sizes).items():
                for most in range(len(row) + 1):
                    for moves in some:
                        self.look_at(sizes, some, moves, most)
                self.look_at_least(sizes, row, some)

    def test_some_rows_of_more_places(self):
        draw = random.Random(61)
        for sizes in ((6,), (2, 3), (7,), (8,), (2, 4), (2, 2, 2)):
            rows = [row for row, some in dealings_by_row(sizes).items() if len(some) <= 60]
            for row in draw.sample(rows, 6):
                some = dealings_of(sizes, row)
                for most in range(len(row) + 1):
                    self.look_at(sizes, some, draw.choice(some), most)
                self.look_at_least(sizes, row, some)

    def look_at(self, sizes, some, moves, most):
        nearby = own_changes(some, moves, most)
        self.assertEqual(self.told(changes, dials=sizes, dealing=moves, most=most), nearby)
        found = self.told(pool, dials=sizes, dealing=moves, most=most)
        least = fewest([moves], lambda here: own_changes(some, here, most))
        self.assertEqual(found, sorted(least))
        row = tuple(sorted(moves))
        self.assertIs(self.told(is_pool, dials=sizes, row=row, most=most, thing=found), True)
        if most <= 2:
            self.assertEqual((nearby, found), ([], [moves]))
        for other in some[:8] + [moves]:
            steps = self.told(path, dials=sizes, one=moves, other=other, most=most)
            self.assertEqual(steps is None, other not in found)
            if steps is not None:
                self.assertEqual((steps[0], steps[-1], len(steps)), (moves, other, least[other] + 1))
                for one, following in zip(steps, steps[1:]):
                    self.assertIn(following, own_changes(some, one, most))

    def look_at_least(self, sizes, row, some):
        joined = [most for most in range(len(row) + 1) if not some or own_pool(some, some[0], most) == some]
        self.assertEqual(self.told(least_most, dials=sizes, row=row), joined[0])

    def test_rows_with_fewer_than_two_dealings(self):
        for sizes in ((2,), (3,), (4,), (2, 2)):
            for row in all_rows(sizes):
                if len(dealings_of(sizes, row)) < 2:
                    self.assertEqual(self.told(least_most, dials=sizes, row=row), 0)

    def test_never_one_or_two_and_three_go_round(self):
        for sizes in ((4,), (2, 2), (5,), (6,), (2, 3)):
            for some in dealings_by_row(sizes).values():
                for one, other in itertools.combinations(some, 2):
                    persons = differ(sizes, one, other)
                    self.assertGreaterEqual(len(persons), 3)
                    if len(persons) == 3:
                        self.assertEqual(is_even(sizes, one), is_even(sizes, other))
                        places = own_places(sizes)
                        here = [own_ends(sizes, one)[places.index(person)] for person in persons]
                        there = [own_ends(sizes, other)[places.index(person)] for person in persons]
                        self.assertIn(there, [here[1:] + here[:1], here[2:] + here[:2]])
                for moves in some:
                    for other in pool(sizes, moves, 3)[:12]:
                        self.assertEqual(is_even(sizes, moves), is_even(sizes, other))

    def test_path_or_pool_never_both(self):
        for sizes in ((4,), (2, 2), (5,)):
            for row, some in dealings_by_row(sizes).items():
                for most, one, other in itertools.product((2, 3, 4), some[:5], some[:5]):
                    steps = path(sizes, one, other, most)
                    own = pool(sizes, one, most)
                    apart = is_pool(sizes, row, most, own) and other not in own
                    self.assertEqual(steps is None, apart)


class Pools(Case):

    def test_any_value_is_judged_as_described(self):
        cases = [((3,), ROW3, most) for most in (0, 2, 3)]
        cases += [((4,), ((0,), (1,), (1,), (2,)), most) for most in (2, 3, 4)]
        cases += [((5,), tuple(own_places((5,))), most) for most in (2, 3, 4, 5)]
        cases += [((2, 2), ((0, 0), (0, 1), (1, 0), (1, 1)), most) for most in (3, 4)]
        for sizes, row, most in cases:
            some = dealings_of(sizes, row)
            things = anything() + list(near_misses(own_pool(some, some[0], most)))
            things += [list(few) for many in (1, 2, 3) for few in itertools.combinations(some[:6], many)]
            things += [some, tuple(some), some[::-1], some + some, some[:1] * 2, [list(moves) for moves in some]]
            for thing in things:
                judged = self.told(is_pool, dials=sizes, row=row, most=most, thing=thing)
                self.assertIs(judged, good_pool(some, most, thing), (sizes, row, most, thing))

    def test_pools_together_are_a_pool(self):
        row = ((0,), (1,), (1,), (2,))
        some = dealings_of((4,), row)
        self.assertIs(self.told(is_pool, dials=(4,), row=row, most=0, thing=some[:2]), True)
        self.assertIs(self.told(is_pool, dials=(4,), row=row, most=2, thing=some), True)
        self.assertIs(self.told(is_pool, dials=(4,), row=row, most=2, thing=some[1::-1]), False)
        self.assertIs(self.told(is_pool, dials=(4,), row=row, most=2, thing=[]), False)

    def test_dealings_of_another_row_and_rows_without(self):
        self.assertIs(self.told(is_pool, dials=(3,), row=ROW3, most=0, thing=[((0,),) * 3]), False)
        self.assertIs(self.told(is_pool, dials=(3,), row=((0,), (0,), (1,)), most=3, thing=[]), False)
        self.assertIs(self.told(is_pool, dials=(3,), row=((0,), (0,), (1,)), most=3, thing=[ROW3]), False)
        self.assertIs(self.told(is_pool, dials=(3,), row=((0,),) * 3, most=3, thing=[((0,),) * 3]), True)
        self.assertIs(self.told(is_pool, dials=(3,), row=((0,),) * 3, most=3, thing=(((False,),) * 3,)), False)


class Refused(Case):

    def test_most(self):
        for most in (-1, 4, 25, 999999999, True, False, None, "3", (3,), [3]):
            self.refused(errors.BadMost, changes, dials=(3,), dealing=ROW3, most=most)
            self.refused(errors.BadMost, pool, dials=(3,), dealing=ROW3, most=most)
            self.refused(errors.BadMost, path, dials=(3,), one=ROW3, other=ROW3, most=most)
            self.refused(errors.BadMost, is_pool, dials=(3,), row=ROW3, most=most, thing=None)
        for most in (0, 1, 2, 3):
            self.told(changes, dials=(3,), dealing=ROW3, most=most)
            self.assertEqual(self.told(path, dials=(3,), one=ROW3, other=ROW3, most=most), [ROW3])

    def test_another_row(self):
        still = ((0,),) * 3
        self.refused(errors.BadDealing, path, dials=(3,), one=ROW3, other=still, most=3)
        self.refused(errors.BadDealing, path, dials=(3,), one=still, other=ROW3, most=None)
        self.refused(errors.BadDealing, path, dials=(3,), one=ROW3, other=list(ROW3), most=3)
        self.assertEqual(self.told(differ, dials=(3,), one=ROW3, other=still), [(1,), (2,)])

    def test_too_many(self):
        for sizes, row in (((9,), ROW_306), ((9,), MANY9), ((10,), MANY10)):
            moves = dealing_of(sizes, row)
            self.too_many(300, changes, dials=sizes, dealing=moves, most=3)
            self.too_many(300, pool, dials=sizes, dealing=moves, most=0)
            self.too_many(300, path, dials=sizes, one=moves, other=moves, most=3)
            self.too_many(300, is_pool, dials=sizes, row=row, most=3, thing=None)
            self.too_many(300, least_most, dials=sizes, row=row)
            self.refused(errors.BadMost, pool, dials=sizes, dealing=moves, most=None)
        still = ((0,),) * 11
        self.too_many(10, changes, dials=(11,), dealing=still, most=11)
        self.too_many(10, least_most, dials=(11,), row=still)
        self.assertEqual(self.told(least_most, dials=(10,), row=still[:10]), 0)

    def test_just_300(self):
        some = all_dealings((10,), ROW_300)
        self.assertEqual(len(some), 300)
        least = self.told(least_most, dials=(10,), row=ROW_300)
        for most in (least - 1, least):
            own = own_pool(some, some[0], most)
            self.assertEqual(own == some, most == least)
            self.assertEqual(self.told(pool, dials=(10,), dealing=some[0], most=most), own)
            self.assertIs(self.told(is_pool, dials=(10,), row=ROW_300, most=most, thing=own), True)
        self.assertEqual(len(self.told(changes, dials=(10,), dealing=some[0], most=10)), 299)
        self.assertEqual(self.told(path, dials=(10,), one=some[0], other=some[-1], most=10), [some[0], some[-1]])


def dealing_of(sizes, row):
    """A dealing with this row, found by going on move by move."""
    places = own_places(sizes)

    def go_on(moves, goals, left):
        if not left:
            return moves
        for move in sorted(set(left)):
            goal = tuple((a + b) % s for a, b, s in zip(places[len(moves)], move, sizes))
            if goal not in goals:
                rest = list(left)
                rest.remove(move)
                found = go_on(moves + (move,), goals | {goal}, rest)
                if found is not None:
                    return found
        return None

    return go_on((), frozenset(), list(row))
