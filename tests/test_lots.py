"""Promise 60: lots, their rows and seatings."""

import itertools
import math
import random

from movedround import errors
from movedround.lots import is_lot, is_lot_row, is_seating, lot_ends, lot_parted, lot_shifted
from movedround.shifts import parts, shifts
from tests.judges import good_lot, good_lot_row, good_seating
from tests.support import Case, all_dials, anything, near_misses, own_places, own_plus

LOT = ((0,), (1,), (3,), (5,))
ROW = ((0,), (0,), (2,), (2,))
WRONG_LOTS = (None, (), [], list(LOT), LOT[::-1], LOT + LOT[-1:], ((0,), (0,)), ((6,),), ((True,),), ((0,), (1,), (False,)),
              (0, 1), {(0,): 1}, "0", ((0, 0),), 0, tuple(own_places((6,))) + ((0,),))


def drawn_lot(draw, sizes, many=None):
    places = own_places(sizes)
    return tuple(sorted(draw.sample(places, many or draw.randint(1, len(places)))))


def drawn_lot_row(draw, sizes, lot):
    return tuple(sorted(draw.choices(own_places(sizes), k=len(lot))))


class Lots(Case):

    def test_any_value_is_judged_as_described(self):
        for sizes, valid in (((6,), LOT), ((2, 3), ((0, 1), (1, 0), (1, 2))), ((2,), ((0,), (1,))), ((3,), ((1,),))):
            for thing in anything() + list(near_misses(valid)):
                self.assertIs(self.told(is_lot, dials=sizes, thing=thing), good_lot(sizes, thing), thing)
        for thing in WRONG_LOTS:
            self.assertIs(self.told(is_lot, dials=(6,), thing=thing), False)

    def test_one_place_and_all(self):
        for sizes in all_dials(24):
            places = own_places(sizes)
            for place in places:
                self.assertIs(is_lot(sizes, (place,)), True)
            self.assertIs(self.told(is_lot, dials=sizes, thing=tuple(places)), True)
            self.assertIs(self.told(is_lot, dials=sizes, thing=tuple(places[::-1])), False)
            self.assertIs(self.told(is_lot, dials=sizes, thing=()), False)
            self.assertIs(self.told(is_lot, dials=sizes, thing=tuple(places) + (places[-1],)), False)

    def test_rows_of_a_lot(self):
        for sizes, lot, valid in (((6,), LOT, ROW), ((2, 3), ((1, 2),), ((0, 1),)), ((2,), ((0,), (1,)), ((1,), (1,)))):
            for thing in anything() + list(near_misses(valid)):
                told = self.told(is_lot_row, dials=sizes, lot=lot, thing=thing)
                self.assertIs(told, good_lot_row(sizes, lot, thing), thing)
            self.assertIs(self.told(is_lot_row, dials=sizes, lot=lot, thing=valid), True)
        for row in (ROW[:3], ROW + ROW[-1:], ROW[::-1], list(ROW), None, ((0,), (False,), (2,), (2,)), ()):
            self.assertIs(self.told(is_lot_row, dials=(6,), lot=LOT, thing=row), False)
            self.refused(errors.BadRow, is_seating, dials=(6,), lot=LOT, row=row, thing=None)
        for lot in WRONG_LOTS:
            self.refused(errors.BadLot, is_lot_row, dials=(6,), lot=lot, thing=ROW)

    def test_lot_ends(self):
        draw = random.Random(380)
        for sizes in all_dials(24):
            lot = drawn_lot(draw, sizes)
            moves = tuple(draw.choices(own_places(sizes), k=len(lot)))
            found = self.told(lot_ends, dials=sizes, lot=lot, moves=moves)
            self.assertEqual(found, [own_plus(sizes, person, move) for person, move in zip(lot, moves)])
        self.told(lot_ends, dials=(6,), lot=LOT, moves=ROW[::-1])
        for moves in (ROW[:3], ROW + ROW[:1], list(ROW), None, (), ((0,), (0,), (6,), (0,)), ((True,),) * 4, 0, "0000"):
            self.refused(errors.BadMoves, lot_ends, dials=(6,), lot=LOT, moves=moves)
        for lot in WRONG_LOTS:
            self.refused(errors.BadLot, lot_ends, dials=(6,), lot=lot, moves=None)

    def test_seatings(self):
        draw = random.Random(381)
        seen = set()
        for sizes in all_dials(24):
            for many in (1, 2, 3, 4):
                if many <= math.prod(sizes):
                    lot = drawn_lot(draw, sizes, many)
                    row = drawn_lot_row(draw, sizes, lot)
                    for order in set(itertools.permutations(row)):
                        told = is_seating(sizes, lot, row, order)
                        self.assertIs(told, good_seating(sizes, lot, row, order))
                        seen.add(told)
                    self.told(is_seating, dials=sizes, lot=lot, row=row, thing=row)
        self.assertEqual(seen, {True, False})
        for sizes, lot, row, valid in (((6,), LOT, ROW, ROW), ((4,), ((0,), (2,)), ((1,), (2,)), ((2,), (1,))),
                                       ((2, 2), ((0, 1),), ((1, 1),), ((1, 1),))):
            for thing in anything() + list(near_misses(valid)):
                told = self.told(is_seating, dials=sizes, lot=lot, row=row, thing=thing)
                self.assertIs(told, good_seating(sizes, lot, row, thing), thing)
        # Different ends, but not the moves of the row.
        self.assertIs(is_seating((4,), ((0,), (2,)), ((1,), (2,)), ((1,), (1,))), False)
        for lot in WRONG_LOTS:
            self.refused(errors.BadLot, is_seating, dials=(6,), lot=lot, row=None, thing=None)

    def test_lot_shifted(self):
        draw = random.Random(382)
        for sizes in all_dials(24):
            lot, place = drawn_lot(draw, sizes), draw.choice(own_places(sizes))
            found = self.told(lot_shifted, dials=sizes, lot=lot, place=place)
            self.assertEqual(found, tuple(sorted(own_plus(sizes, person, place) for person in lot)))
            self.assertIs(is_lot(sizes, found), True)
        self.assertEqual(lot_shifted((6,), LOT, (1,)), ((0,), (1,), (2,), (4,)))
        for place in ((6,), (True,), (0, 0), [0], 0, None):
            self.refused(errors.BadPlace, lot_shifted, dials=(6,), lot=LOT, place=place)
        for lot in WRONG_LOTS:
            self.refused(errors.BadLot, lot_shifted, dials=(6,), lot=lot, place=None)

    def test_lot_parted(self):
        draw = random.Random(383)
        for sizes in all_dials(24):
            lot = drawn_lot(draw, sizes)
            for part in draw.sample(parts(sizes), min(5, len(parts(sizes)))):
                found = self.told(lot_parted, dials=sizes, lot=lot, part=part)
                self.assertEqual(sorted(person for some in found for person in some), list(lot))
                self.assertEqual(found, sorted(found))
                own = [tuple(person for person in lot if person in shift) for shift in shifts(sizes, part)]
                self.assertEqual(found, sorted(some for some in own if some))
        self.assertEqual(lot_parted((6,), LOT, ((0,), (3,))), [((0,), (3,)), ((1,),), ((5,),)])
        self.assertEqual(lot_parted((6,), LOT, ((0,), (2,), (4,))), [((0,),), ((1,), (3,), (5,))])
        for part in (None, [(0,), (3,)], ((0,), (2,)), ((3,),), (), ((0,), (True,)), ((3,), (0,)), 0):
            self.refused(errors.BadPart, lot_parted, dials=(6,), lot=LOT, part=part)
        for lot in WRONG_LOTS:
            self.refused(errors.BadLot, lot_parted, dials=(6,), lot=lot, part=None)

    def test_what_seats_a_lot_seats_its_shifts(self):
        draw = random.Random(384)
        for sizes in all_dials(12):
            lot = drawn_lot(draw, sizes, min(4, math.prod(sizes)))
            row = drawn_lot_row(draw, sizes, lot)
            for order in set(itertools.permutations(row)):
                if good_seating(sizes, lot, row, order):
                    move_of = dict(zip(lot, order))
                    for place in own_places(sizes):
                        moved = {own_plus(sizes, person, place): move for person, move in move_of.items()}
                        shifted = lot_shifted(sizes, lot, place)
                        self.assertIs(is_seating(sizes, shifted, row, tuple(moved[person] for person in shifted)), True)
                        sent = tuple(own_plus(sizes, move, place) for move in order)
                        self.assertIs(is_seating(sizes, lot, tuple(sorted(sent)), sent), True)
