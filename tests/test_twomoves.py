"""Promise 64: trains, and seatings by two moves."""

import collections
import itertools
import math
import random

from movedround import errors
from movedround.twomoves import trains, two_many, two_seating
from tests.support import Case, all_dials, near_misses, nothing, own_minus, own_places, own_plus
from tests.test_lots import WRONG_LOTS, drawn_lot

LOT6 = ((0,), (1,), (3,), (5,))


def own_counts(sizes, lot, one, other):
    """How many seatings give one to so many persons: by trying all."""
    many = collections.Counter()
    for moves in itertools.product((one, other), repeat=len(lot)):
        if len({own_plus(sizes, *pair) for pair in zip(lot, moves)}) == len(lot):
            many[moves.count(one)] += 1
    return many


def own_trains(sizes, lot, step):
    """The open and the round trains: each train grows, person by person, from those of single persons."""
    opened = [[person] for person in lot]
    closed = []
    again = True
    while again:
        again = False
        for one, other in itertools.product(opened, repeat=2):
            if one is not other and own_plus(sizes, one[-1], step) == other[0]:
                opened = [each for each in opened if each is not one and each is not other] + [one + other]
                again = True
                break
    for each in list(opened):
        if own_plus(sizes, each[-1], step) == each[0]:
            opened.remove(each)
            least = each.index(min(each))
            closed.append(each[least:] + each[:least])
    return sorted(map(tuple, opened)), sorted(map(tuple, closed))


class Trains(Case):

    def look_at(self, sizes, lot, step):
        found = self.told(trains, dials=sizes, lot=lot, step=step)
        self.assertEqual(found, own_trains(sizes, lot, step))
        self.assertIs(type(found), tuple)
        self.assertEqual(sorted(person for some in found for train in some for person in train), list(lot))

    def test_example_by_hand(self):
        self.assertEqual(self.told(trains, dials=(6,), lot=LOT6, step=(1,)), ([((3,),), ((5,), (0,), (1,))], []))

    def test_open_and_round(self):
        both = self.told(trains, dials=(6,), lot=((0,), (1,), (2,), (4,), (5,)), step=(2,))
        self.assertEqual(both, ([((5,), (1,))], [((0,), (2,), (4,))]))
        self.assertEqual(self.told(trains, dials=(2, 2), lot=((0, 1), (1, 0), (1, 1)), step=(1, 0)),
                         ([((1, 0),)], [((0, 1), (1, 1))]))
        self.assertEqual(self.told(trains, dials=(4,), lot=((3,),), step=(2,)), ([((3,),)], []))
        self.assertEqual(self.told(trains, dials=(4,), lot=((1,), (3,)), step=(2,)), ([], [((1,), (3,))]))

    def test_all_lots_of_few_places(self):
        for sizes in all_dials(6):
            places = own_places(sizes)
            for many in range(1, len(places) + 1):
                for lot in itertools.combinations(places, many):
                    for step in places[1:]:
                        self.look_at(sizes, lot, step)

    def test_drawn_lots(self):
        draw = random.Random(640)
        for sizes in all_dials(24):
            for lot in (drawn_lot(draw, sizes), tuple(own_places(sizes))):
                for step in draw.sample(own_places(sizes)[1:], min(3, math.prod(sizes) - 1)):
                    self.look_at(sizes, lot, step)

    def test_what_is_no_step(self):
        for step in ((0,), (6,), (True,), (False,), [1], 1, None, (), (0, 1), "1", {(1,): 1}):
            self.refused(errors.BadStep, trains, dials=(6,), lot=LOT6, step=step)
        self.refused(errors.BadStep, trains, dials=(2, 3), lot=((0, 0),), step=(0, 0))
        for lot in WRONG_LOTS:
            self.refused(errors.BadLot, trains, dials=(6,), lot=lot, step=(0,))


class TwoMoves(Case):

    def look_at(self, sizes, lot, one, other, own=None):
        own = own_counts(sizes, lot, one, other) if own is None else own
        for number in range(len(lot) + 1):
            told = {"dials": sizes, "lot": lot, "one": one, "other": other, "number": number}
            self.assertEqual(self.told(two_many, **told), own[number])
            found = self.told(two_seating, **told)
            self.assertEqual(found is None, own[number] == 0)
            if found is not None:
                self.assertEqual((type(found), len(found)), (tuple, len(lot)))
                self.assertLessEqual(set(found), {one, other})
                self.assertEqual(found.count(one), number)
                self.assertEqual(len({own_plus(sizes, *pair) for pair in zip(lot, found)}), len(lot))

    def test_example_by_hand(self):
        told = {"dials": (6,), "lot": LOT6, "one": (1,), "other": (0,)}
        self.assertEqual(self.told(two_many, **told, number=2), 2)
        found = self.told(two_seating, **told, number=2)
        # 0 + 2: 0 and 1 take one; 1 + 1: 3 and 1 take one.
        self.assertIn(found, (((1,), (1,), (0,), (0,)), ((0,), (1,), (1,), (0,))))
        self.assertEqual([two_many(**told, number=number) for number in range(5)], [1, 2, 2, 2, 1])

    def test_all_of_few_places(self):
        for sizes in all_dials(5):
            places = own_places(sizes)
            for many in range(1, len(places) + 1):
                for lot in itertools.combinations(places, many):
                    for one, other in itertools.permutations(places, 2):
                        self.look_at(sizes, lot, one, other)

    def test_drawn_lots(self):
        draw = random.Random(641)
        for sizes in all_dials(24):
            for many in (3, 7, 9):
                if many <= math.prod(sizes):
                    lot = drawn_lot(draw, sizes, many)
                    self.look_at(sizes, lot, *draw.sample(own_places(sizes), 2))

    def test_lots_of_any_size(self):
        """Rounds of the same length alone, and open trains: by choosing for each train."""
        draw = random.Random(642)
        for sizes in all_dials(24):
            for lot in (drawn_lot(draw, sizes), tuple(own_places(sizes)), tuple(own_places(sizes)[:-1])):
                one, other = draw.sample(own_places(sizes), 2)
                opened, closed = own_trains(sizes, lot, own_minus(sizes, one, other))
                own = collections.Counter([0])
                for shares in [range(len(train) + 1) for train in opened] + [(0, len(train)) for train in closed]:
                    ways = collections.Counter()
                    for at, share in itertools.product(own, shares):
                        ways[at + share] += own[at]
                    own = ways
                self.look_at(sizes, lot, one, other, own)

    def test_wrong_moves_and_numbers(self):
        told = {"dials": (6,), "lot": LOT6}
        for function in (two_many, two_seating):
            for move in ((6,), (True,), [1], 1, None, (), (0, 1), "1"):
                self.refused(errors.BadMove, function, **told, one=move, other=move, number=None)
                self.refused(errors.BadMove, function, **told, one=(1,), other=move, number=None)
            self.refused(errors.BadOther, function, **told, one=(1,), other=(1,), number=None)
            self.refused(errors.BadOther, function, **told, one=(0,), other=nothing((6,)), number=2)
            for number in (-1, 5, True, False, None, "2", (2,), [2], 10 ** 9, -10 ** 9, {}) + tuple(near_misses("2")):
                self.refused(errors.BadNumber, function, **told, one=(1,), other=(0,), number=number)
            for number in (0, 4):
                self.assertTrue(self.told(function, **told, one=(1,), other=(0,), number=number))
            for lot in WRONG_LOTS:
                self.refused(errors.BadLot, function, dials=(6,), lot=lot, one=None, other=None, number=None)
