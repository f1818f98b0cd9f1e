"""Promise 93: one move too few, and who can be left out."""

import itertools
import math
import random

from movedround import errors
from movedround.leaving import leavable, seating_without
from movedround.seatings import all_but, seating
from tests.judges import good_seating, is_prime, own_seatings
from tests.support import Case, all_dials, anything, own_places
from tests.test_lots import WRONG_LOTS, drawn_lot, drawn_lot_row
from tests.test_seatings import all_lots

LOT4, ROW4 = ((0,), (1,), (2,)), ((0,), (2,))


class Leaving(Case):

    def look_at(self, sizes, lot, row, always=False):
        found = self.told(leavable, dials=sizes, lot=lot, row=row)
        self.assertGreaterEqual(len(found), 2)
        left = []
        for person in lot:
            one = self.told(seating_without, dials=sizes, lot=lot, row=row, person=person)
            others = tuple(each for each in lot if each != person)
            if one is not None:
                self.assertTrue(good_seating(sizes, others, row, one), (sizes, lot, row, person, one))
                left.append(person)
            elif always or len(others) <= 6:
                self.assertEqual(own_seatings(sizes, others, row), [])
        self.assertEqual(found, tuple(left))
        if always:
            self.assertEqual(found, lot)
        return len(found) == len(lot)

    def test_example_by_hand(self):
        told = {"dials": (4,), "lot": LOT4, "row": ROW4}
        self.assertEqual(self.told(leavable, **told), ((0,), (2,)))
        self.assertIsNone(self.told(seating_without, **told, person=(1,)))
        self.assertIsNone(seating((4,), ((0,), (2,)), ROW4))
        # 1 + 0 and 2 + 2; 0 + 0 and 1 + 2.
        self.assertEqual(self.told(seating_without, **told, person=(0,)), ((0,), (2,)))
        self.assertEqual(self.told(seating_without, **told, person=(2,)), ((0,), (2,)))

    def test_all_lots_and_rows_of_few_places(self):
        seen = set()
        for sizes in all_dials(5):
            prime = is_prime(math.prod(sizes))
            for lot in all_lots(sizes):
                for row in itertools.combinations_with_replacement(own_places(sizes), len(lot) - 1):
                    if row:
                        seen.add(self.look_at(sizes, lot, row, prime or len(lot) == math.prod(sizes)))
        self.assertEqual(seen, {True, False})

    def test_drawn_lots_and_rows(self):
        draw = random.Random(930)
        for sizes in all_dials(24):
            n = math.prod(sizes)
            for many in (2, 3, 5, 7):
                if many <= n:
                    lot = drawn_lot(draw, sizes, many)
                    few = draw.sample(own_places(sizes), 2)
                    for row in (drawn_lot_row(draw, sizes, lot[1:]), tuple(sorted(draw.choices(few, k=many - 1)))):
                        self.look_at(sizes, lot, row, is_prime(n))

    def test_an_odd_number_and_unlike_moves(self):
        draw = random.Random(931)
        for sizes in all_dials(24):
            if math.prod(sizes) % 2 == 1:
                for many in range(2, min(8, math.prod(sizes) + 1)):
                    for _ in range(3):
                        self.look_at(sizes, drawn_lot(draw, sizes, many), drawn_lot(draw, sizes, many - 1), True)

    def test_all_places(self):
        draw = random.Random(932)
        for sizes in all_dials(24):
            lot = tuple(own_places(sizes))
            for row in (drawn_lot_row(draw, sizes, lot[1:]), lot[1:], lot[:1] * (len(lot) - 1)):
                self.look_at(sizes, lot, row, True)

    def test_somebody_can_be_left_out_with_any_move(self):
        draw = random.Random(933)
        for sizes in all_dials(12):
            for many in (2, 4, 6):
                if many <= math.prod(sizes):
                    lot = drawn_lot(draw, sizes, many)
                    row = drawn_lot_row(draw, sizes, lot)
                    for move in sorted(set(row)):
                        at = row.index(move)
                        person, _ = all_but(sizes, lot, row, move)
                        self.assertIn(person, leavable(sizes, lot, row[:at] + row[at + 1:]))

    def test_too_many(self):
        draw = random.Random(934)
        for sizes in ((8,), (9,), (10,), (24,), (2, 2, 2), (7,)):
            n = math.prod(sizes)
            for many in (7, 8, 9, 23):
                if many <= n:
                    lot = drawn_lot(draw, sizes, many)
                    told = {"dials": sizes, "lot": lot, "row": drawn_lot_row(draw, sizes, lot[1:])}
                    if many == 7 or many == n:
                        self.told(leavable, **told)
                        self.told(seating_without, **told, person=lot[3])
                    else:
                        self.too_many(7, leavable, **told)
                        self.too_many(7, seating_without, **told, person=lot[3])
                    self.refused(errors.BadPerson, seating_without, **told, person=None)
                    self.refused(errors.BadRow, leavable, **{**told, "row": told["row"][1:]})
                    self.refused(errors.BadLot, leavable, **{**told, "lot": lot[::-1]})

    def test_what_is_no_lot_or_row_or_person(self):
        for lot in WRONG_LOTS + (((0,),), ((5,),)):
            self.refused(errors.BadLot, leavable, dials=(6,), lot=lot, row=None)
            self.refused(errors.BadLot, seating_without, dials=(6,), lot=lot, row=None, person=None)
        for row in (None, (), ((0,),), ((0,), (2,), (2,)), ((2,), (0,)), [(0,), (2,)], ((False,), (2,)), ((0,), (4,)),
                    ((0,), 2), (0, 2), {(0,): (2,)}, "02", ((0, 0), (0, 2))):
            self.refused(errors.BadRow, leavable, dials=(4,), lot=LOT4, row=row)
            self.refused(errors.BadRow, seating_without, dials=(4,), lot=LOT4, row=row, person=None)
        for person in [(3,), (4,), (True,), (False,), [0], 0, None, (), (0, 0)] + anything():
            if person not in LOT4 or type(person[0]) is bool:
                self.refused(errors.BadPerson, seating_without, dials=(4,), lot=LOT4, row=ROW4, person=person)
        self.assertEqual(self.told(leavable, dials=(2,), lot=((0,), (1,)), row=((1,),)), ((0,), (1,)))
