"""Promise 61: seatings, what bars them, and all moves but one."""

import itertools
import math
import random

from movedround import errors
from movedround.lots import is_seating
from movedround.seatings import all_but, part_bar, seating, seatings_many
from movedround.shifts import parts, shifts
from tests.judges import good_all_but, good_seating, is_prime, own_seatings, own_seatings_by_row
from tests.support import Case, all_dials, nothing, own_minus, own_places, own_plus, own_total
from tests.test_lots import WRONG_LOTS, drawn_lot, drawn_lot_row

LOT4, ROW4 = ((0,), (2,)), ((0,), (2,))


def all_lots(sizes):
    places = own_places(sizes)
    return [lot for many in range(1, len(places) + 1) for lot in itertools.combinations(places, many)]


def own_part_bar(sizes, lot, row):
    """The part of which the lot is a shift, if it bars the row: by a look at all parts and their shifts."""
    for part in parts(sizes):
        if lot in shifts(sizes, part):
            if any(set(row) <= set(shift) for shift in shifts(sizes, part)):
                if all(own_total(sizes, row) != own_total(sizes, [move] * len(lot)) for move in row):
                    return part
    return None


class Seatings(Case):

    def look_at(self, sizes, lot, row, many):
        found = self.told(seating, dials=sizes, lot=lot, row=row)
        self.assertEqual(found is None, many == 0, (sizes, lot, row))
        if found is not None:
            self.assertTrue(good_seating(sizes, lot, row, found))
        if len(lot) <= 8:
            self.assertEqual(self.told(seatings_many, dials=sizes, lot=lot, row=row), many)
        bar = self.told(part_bar, dials=sizes, lot=lot, row=row)
        self.assertEqual(bar, own_part_bar(sizes, lot, row))
        if bar is not None:
            self.assertEqual(many, 0)

    def test_example_by_hand(self):
        self.assertIsNone(self.told(seating, dials=(4,), lot=LOT4, row=ROW4))
        self.assertEqual(self.told(seatings_many, dials=(4,), lot=LOT4, row=ROW4), 0)
        self.assertEqual(self.told(part_bar, dials=(4,), lot=LOT4, row=ROW4), ((0,), (2,)))
        found = self.told(all_but, dials=(4,), lot=LOT4, row=ROW4, move=(0,))
        self.assertIn(found, (((0,), (None, (2,))), ((2,), ((2,), None))))

    def test_all_lots_and_rows_of_few_places(self):
        for sizes in all_dials(5):
            for lot in all_lots(sizes):
                own = own_seatings_by_row(sizes, lot)
                for row in itertools.combinations_with_replacement(own_places(sizes), len(lot)):
                    self.look_at(sizes, lot, row, own.get(row, 0))

    def test_all_rows_of_drawn_lots(self):
        draw = random.Random(610)
        for sizes in ((6,), (2, 3), (7,), (8,), (2, 4), (2, 2, 2)):
            for many in (2, 3, 4, 5):
                lot = drawn_lot(draw, sizes, many)
                own = own_seatings_by_row(sizes, lot)
                rows = list(itertools.combinations_with_replacement(own_places(sizes), many))
                for row in draw.sample(rows, min(60, len(rows))):
                    self.look_at(sizes, lot, row, own.get(row, 0))

    def test_drawn_lots_and_rows(self):
        draw = random.Random(611)
        for sizes in all_dials(24):
            for many in (1, 2, 4, 6):
                if many <= math.prod(sizes):
                    lot = drawn_lot(draw, sizes, many)
                    for row in (drawn_lot_row(draw, sizes, lot), (draw.choice(own_places(sizes)),) * many):
                        self.look_at(sizes, lot, row, len(own_seatings(sizes, lot, row)))

    def test_seven_and_eight_persons(self):
        draw = random.Random(612)
        for sizes in ((9,), (3, 3), (10,), (12,), (2, 6), (16,), (2, 2, 4), (24,)):
            for many in (7, 8):
                lot = drawn_lot(draw, sizes, many)
                row = drawn_lot_row(draw, sizes, lot)
                found = self.told(seating, dials=sizes, lot=lot, row=row)
                own = own_seatings(sizes, lot, row)
                self.assertIn(found, own or [None])
                self.assertEqual(self.told(seatings_many, dials=sizes, lot=lot, row=row), len(own))

    def test_equal_moves(self):
        """One move several times: all take it, and that is the one seating."""
        draw = random.Random(613)
        for sizes in all_dials(24):
            for move in draw.sample(own_places(sizes), 2):
                lot = drawn_lot(draw, sizes, draw.randint(1, min(8, math.prod(sizes))))
                row = (move,) * len(lot)
                self.assertEqual(seating(sizes, lot, row), row)
                self.assertEqual(seatings_many(sizes, lot, row), 1)
                self.assertIsNone(part_bar(sizes, lot, row))


class Always(Case):

    def test_a_prime_number_of_places_and_fewer_persons(self):
        for sizes in ((2,), (3,), (5,)):
            for lot in all_lots(sizes)[:-1]:
                for row in itertools.combinations_with_replacement(own_places(sizes), len(lot)):
                    self.assertTrue(good_seating(sizes, lot, row, seating(sizes, lot, row)))
        draw = random.Random(614)
        for row in itertools.combinations_with_replacement(own_places((7,)), 6):
            self.assertIsNotNone(seating((7,), drawn_lot(draw, (7,), 6), row))
        for number in filter(is_prime, range(7, 24)):
            for _ in range(12):
                lot = drawn_lot(draw, (number,), draw.randint(1, min(8, number - 1)))
                some = draw.sample(own_places((number,)), draw.randint(1, 3))
                for row in (drawn_lot_row(draw, (number,), lot), tuple(sorted(draw.choices(some, k=len(lot))))):
                    self.assertTrue(good_seating((number,), lot, row, seating((number,), lot, row)))

    def test_an_odd_number_of_places_and_unlike_moves(self):
        for sizes in ((3,), (5,)):
            for lot in all_lots(sizes):
                for row in itertools.combinations(own_places(sizes), len(lot)):
                    self.assertTrue(good_seating(sizes, lot, row, seating(sizes, lot, row)))
        draw = random.Random(615)
        for sizes in all_dials(24):
            n = math.prod(sizes)
            if n % 2 == 1:
                for many in range(1, min(n, 9)):
                    for _ in range(4):
                        lot = drawn_lot(draw, sizes, many)
                        row = drawn_lot(draw, sizes, many)
                        self.assertTrue(good_seating(sizes, lot, row, seating(sizes, lot, row)))
                # A lot and moves within one shift of a part.
                for part in parts(sizes):
                    if len(part) <= 8:
                        lot, row = draw.choice(shifts(sizes, part)), draw.choice(shifts(sizes, part))
                        self.assertTrue(good_seating(sizes, lot, row, seating(sizes, lot, row)))

    def test_all_places_exactly_if_the_total_is_nothing(self):
        draw = random.Random(616)
        for sizes in all_dials(24):
            lot = tuple(own_places(sizes))
            for goal in (nothing(sizes), draw.choice(own_places(sizes)[1:])):
                moves = draw.choices(own_places(sizes), k=len(lot) - 1)
                row = tuple(sorted(moves + [own_minus(sizes, goal, own_total(sizes, moves))]))
                found = self.told(seating, dials=sizes, lot=lot, row=row)
                self.assertEqual(found is not None, goal == nothing(sizes))
                if found is not None:
                    self.assertTrue(good_seating(sizes, lot, row, found))
                bar = self.told(part_bar, dials=sizes, lot=lot, row=row)
                self.assertEqual(bar, None if goal == nothing(sizes) else lot)

    def test_within_a_shift_of_a_part(self):
        draw = random.Random(617)
        seen = set()
        for sizes in all_dials(24):
            for part in parts(sizes):
                lot, goals = draw.choice(shifts(sizes, part)), draw.choice(shifts(sizes, part))
                for _ in range(2):
                    row = tuple(sorted(draw.choices(goals, k=len(lot))))
                    wanted = own_total(sizes, [row[0]] * len(lot))
                    self.assertTrue(all(own_total(sizes, [move] * len(lot)) == wanted for move in row))
                    fits = own_total(sizes, row) == wanted
                    seen.add(fits)
                    self.assertEqual(self.told(part_bar, dials=sizes, lot=lot, row=row), None if fits else part)
                    if len(lot) <= 8 or len(lot) == math.prod(sizes):
                        found = self.told(seating, dials=sizes, lot=lot, row=row)
                        self.assertEqual(found is not None, fits)
                        if found is not None:
                            # The ends are a shift of the part, too.
                            ends = tuple(sorted(own_plus(sizes, *pair) for pair in zip(lot, found)))
                            self.assertIn(ends, shifts(sizes, part))
        self.assertEqual(seen, {True, False})

    def test_no_part_bar_and_no_seating_either(self):
        for sizes, lot, row in (((6,), ((0,), (2,), (4,), (5,)), ((0,), (0,), (4,), (4,))),
                                ((8,), ((0,), (3,), (4,), (7,)), ((0,), (4,), (4,), (4,))),
                                ((2, 4), ((0, 0), (0, 3), (1, 1), (1, 2)), ((0, 0), (1, 2), (1, 2), (1, 2)))):
            self.assertEqual(own_seatings(sizes, lot, row), [])
            self.assertIsNone(self.told(seating, dials=sizes, lot=lot, row=row))
            self.assertIsNone(self.told(part_bar, dials=sizes, lot=lot, row=row))


class AllBut(Case):

    def look_at(self, sizes, lot, row, move):
        found = self.told(all_but, dials=sizes, lot=lot, row=row, move=move)
        self.assertTrue(good_all_but(sizes, lot, row, move, found), (sizes, lot, row, move, found))
        person, moves = found
        ends = [own_plus(sizes, *pair) for pair in zip(lot, moves) if pair[1] is not None]
        filled = tuple(move if one == person else other for one, other in zip(lot, moves))
        if own_plus(sizes, person, move) not in ends:
            self.assertIs(is_seating(sizes, lot, row, filled), True)
        else:
            self.assertIs(is_seating(sizes, lot, row, filled), False)

    def test_all_of_few_places(self):
        for sizes in ((2,), (3,), (4,), (2, 2)):
            for lot in all_lots(sizes):
                for row in itertools.combinations_with_replacement(own_places(sizes), len(lot)):
                    for move in sorted(set(row)):
                        self.look_at(sizes, lot, row, move)

    def test_lots_of_any_size(self):
        draw = random.Random(618)
        for sizes in all_dials(24):
            for lot in (drawn_lot(draw, sizes), tuple(own_places(sizes)), drawn_lot(draw, sizes, 1)):
                row = drawn_lot_row(draw, sizes, lot)
                for move in draw.sample(row, min(3, len(row))):
                    self.look_at(sizes, lot, row, move)
        lot = tuple(own_places((24,)))
        self.look_at((24,), lot, lot, (5,))
        self.look_at((24,), lot[:9], lot[3:12], (5,))

    def test_one_person(self):
        self.assertEqual(self.told(all_but, dials=(4,), lot=((3,),), row=((2,),), move=(2,)), ((3,), (None,)))

    def test_what_is_not_one_of_the_moves(self):
        for move in ((1,), (4,), (False,), [0], 0, None, "0", (), (0, 0), ((0,),), {(0,): 0}):
            self.refused(errors.BadMove, all_but, dials=(4,), lot=LOT4, row=ROW4, move=move)


class Edges(Case):

    def test_too_many(self):
        draw = random.Random(619)
        for sizes in ((10,), (2, 5), (24,), (2, 3, 4)):
            for many in (8, 9, 10, 23):
                if many < math.prod(sizes):
                    lot = drawn_lot(draw, sizes, many)
                    row = drawn_lot_row(draw, sizes, lot)
                    for function in (seating, seatings_many):
                        if many > 8:
                            self.too_many(8, function, dials=sizes, lot=lot, row=row)
                        else:
                            self.told(function, dials=sizes, lot=lot, row=row)
                    self.told(part_bar, dials=sizes, lot=lot, row=row)
                    self.told(all_but, dials=sizes, lot=lot, row=row, move=row[-1])
        for sizes in ((9,), (3, 3), (10,), (24,)):
            lot = tuple(own_places(sizes))
            row = (lot[1],) * len(lot)
            self.assertEqual(self.told(seating, dials=sizes, lot=lot, row=row), row)
            self.too_many(8, seatings_many, dials=sizes, lot=lot, row=row)
        lot = tuple(own_places((8,)))
        self.assertEqual(self.told(seatings_many, dials=(8,), lot=lot, row=(lot[3],) * 8), 1)

    def test_too_many_comes_last(self):
        lot = tuple(own_places((10,)))[:9]
        for function, more in ((seating, {}), (seatings_many, {}), (part_bar, {}), (all_but, {"move": (0,)})):
            self.refused(errors.BadRow, function, dials=(10,), lot=lot, row=lot[:8], **more)
            self.refused(errors.BadRow, function, dials=(10,), lot=lot, row=lot[::-1], **more)
            self.refused(errors.BadRow, function, dials=(10,), lot=lot, row=lot + lot[-1:], **more)
            self.refused(errors.BadRow, function, dials=(10,), lot=lot, row=list(lot), **more)
            self.refused(errors.BadLot, function, dials=(10,), lot=list(lot), row=lot, **more)

    def test_what_is_no_lot(self):
        for lot in WRONG_LOTS:
            for function, more in ((seating, {}), (seatings_many, {}), (part_bar, {}), (all_but, {"move": None})):
                self.refused(errors.BadLot, function, dials=(6,), lot=lot, row=None, **more)

    def test_what_is_no_row(self):
        for row in (None, (), ((0,),), ((0,), (2,), (2,)), ((2,), (0,)), [(0,), (2,)], ((False,), (2,)), ((0,), (4,)),
                    ((0,), 2), (0, 2), {(0,): (2,)}, "02", ((0, 0), (0, 2))):
            for function, more in ((seating, {}), (seatings_many, {}), (part_bar, {}), (all_but, {"move": None})):
                self.refused(errors.BadRow, function, dials=(4,), lot=LOT4, row=row, **more)
