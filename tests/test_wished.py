"""Promise 63: seatings with the ends that are wished for, and one seating on another."""

import collections
import itertools
import math
import random

from movedround import errors
from movedround.seatings import seatings_many
from movedround.wished import goals_reached, seated_on, wished
from tests.judges import good_seating, is_prime, own_seatings
from tests.support import Case, all_dials, nothing, own_minus, own_places, own_plus, own_total
from tests.test_lots import WRONG_LOTS, drawn_lot, drawn_lot_row
from tests.test_seatings import all_lots

LOT4, ROW4 = ((0,), (1,)), ((0,), (2,))


def own_goals(sizes, lot, row):
    """The dict from goals to the seatings that have them."""
    found = collections.defaultdict(list)
    for moves in own_seatings(sizes, lot, row):
        found[tuple(sorted(own_plus(sizes, *pair) for pair in zip(lot, moves)))].append(moves)
    return found


def own_pairs(sizes, lot, row, second):
    """All pairs that seated_on may tell: by trying all orders of both rows."""
    found = []
    for moves in own_seatings(sizes, lot, row):
        ends = [own_plus(sizes, *pair) for pair in zip(lot, moves)]
        for order in set(itertools.permutations(second)):
            if len({own_plus(sizes, *pair) for pair in zip(ends, order)}) == len(lot):
                found.append((moves, order))
    return found


class Wished(Case):

    def look_at(self, sizes, lot, row, some_goals):
        own = own_goals(sizes, lot, row)
        found = self.told(goals_reached, dials=sizes, lot=lot, row=row)
        self.assertEqual(found, {goals: len(own[goals]) for goals in own})
        self.assertEqual(sum(found.values()), seatings_many(sizes, lot, row))
        for goals in found:
            total = own_plus(sizes, own_total(sizes, lot), own_total(sizes, row))
            self.assertEqual(own_total(sizes, goals), total)
        for goals in some_goals + list(own)[:4]:
            one = self.told(wished, dials=sizes, lot=lot, row=row, goals=goals)
            self.assertIn(one, own.get(goals) or [None])
            if one is not None:
                self.look_back(sizes, lot, goals, one)

    def look_back(self, sizes, lot, goals, moves):
        """Each move turned about seats the goals back."""
        back = {own_plus(sizes, *pair): own_minus(sizes, nothing(sizes), pair[1]) for pair in zip(lot, moves)}
        row = tuple(sorted(back.values()))
        self.assertTrue(good_seating(sizes, goals, row, tuple(back[place] for place in goals)))
        self.assertIn(lot, goals_reached(sizes, goals, row))
        self.assertIsNotNone(wished(sizes, goals, row, lot))

    def test_an_example(self):
        self.assertEqual(self.told(goals_reached, dials=(4,), lot=LOT4, row=ROW4), {((0,), (3,)): 1, ((1,), (2,)): 1})
        for goals, moves in ((((0,), (3,)), ((0,), (2,))), (((1,), (2,)), ((2,), (0,))), (((0,), (1,)), None),
                             (((0,), (2,)), None)):
            self.assertEqual(self.told(wished, dials=(4,), lot=LOT4, row=ROW4, goals=goals), moves)

    def test_all_lots_and_rows_of_few_places(self):
        for sizes in ((2,), (3,), (4,), (2, 2)):
            for lot in all_lots(sizes):
                goals = list(itertools.combinations(own_places(sizes), len(lot)))
                for row in itertools.combinations_with_replacement(own_places(sizes), len(lot)):
                    self.look_at(sizes, lot, row, goals)

    def test_drawn_lots_and_rows(self):
        draw = random.Random(630)
        for sizes in all_dials(24):
            for many in (1, 3, 5):
                if many <= math.prod(sizes):
                    lot = drawn_lot(draw, sizes, many)
                    row = drawn_lot_row(draw, sizes, lot)
                    self.look_at(sizes, lot, row, [drawn_lot(draw, sizes, many) for _ in range(3)])

    def test_seven_and_eight_persons(self):
        draw = random.Random(631)
        for sizes in ((8,), (2, 4), (3, 3), (12,), (24,)):
            for many in (6, 7, 8):
                lot = drawn_lot(draw, sizes, many)
                row = drawn_lot_row(draw, sizes, lot)
                own = own_goals(sizes, lot, row)
                for goals in list(own)[:3] + [drawn_lot(draw, sizes, many)]:
                    one = self.told(wished, dials=sizes, lot=lot, row=row, goals=goals)
                    self.assertIn(one, own.get(goals) or [None])

    def test_too_many(self):
        draw = random.Random(632)
        for sizes in ((9,), (24,), (2, 5)):
            for many in (6, 7, 8, 9):
                lot, goals = drawn_lot(draw, sizes, many), drawn_lot(draw, sizes, many)
                row = drawn_lot_row(draw, sizes, lot)
                if many > 8:
                    self.too_many(8, wished, dials=sizes, lot=lot, row=row, goals=goals)
                else:
                    self.told(wished, dials=sizes, lot=lot, row=row, goals=goals)
                if many > 6:
                    self.too_many(6, goals_reached, dials=sizes, lot=lot, row=row)
                    self.too_many(6, seated_on, dials=sizes, lot=lot, row=row, second=row)
                else:
                    self.told(goals_reached, dials=sizes, lot=lot, row=row)
                    self.told(seated_on, dials=sizes, lot=lot, row=row, second=row)
                self.refused(errors.BadGoals, wished, dials=sizes, lot=lot, row=row, goals=goals[1:])
                self.refused(errors.BadSecond, seated_on, dials=sizes, lot=lot, row=row, second=row[1:])
                self.refused(errors.BadRow, goals_reached, dials=sizes, lot=lot, row=row[1:])
        lot = tuple(own_places((9,)))
        self.too_many(8, wished, dials=(9,), lot=lot, row=lot, goals=lot)
        lot = tuple(own_places((7,)))
        self.too_many(6, goals_reached, dials=(7,), lot=lot, row=lot)

    def test_what_are_no_goals(self):
        for goals in WRONG_LOTS + (((0,),), ((0,), (1,), (2,)), ((1,), (0,)), ((1,), (True,))):
            self.refused(errors.BadGoals, wished, dials=(6,), lot=((0,), (3,)), row=((1,), (2,)), goals=goals)

    def test_what_is_no_lot(self):
        for lot in WRONG_LOTS:
            self.refused(errors.BadLot, wished, dials=(6,), lot=lot, row=None, goals=None)
            self.refused(errors.BadLot, goals_reached, dials=(6,), lot=lot, row=None)
            self.refused(errors.BadLot, seated_on, dials=(6,), lot=lot, row=None, second=None)


class SeatedOn(Case):

    def look_at(self, sizes, lot, row, second):
        own = own_pairs(sizes, lot, row, second)
        found = self.told(seated_on, dials=sizes, lot=lot, row=row, second=second)
        self.assertIn(found, own or [None])
        return found is not None

    def test_all_of_few_places(self):
        seen = set()
        for sizes in ((2,), (3,), (4,), (2, 2)):
            for lot in all_lots(sizes)[:: 1 if sizes != (2, 2) else 2]:
                rows = list(itertools.combinations_with_replacement(own_places(sizes), len(lot)))
                for row in rows:
                    for second in rows[::2]:
                        seen.add(self.look_at(sizes, lot, row, second))
        self.assertEqual(seen, {True, False})

    def test_drawn_lots_and_rows(self):
        draw = random.Random(633)
        for sizes in all_dials(24):
            lot = drawn_lot(draw, sizes, min(4, math.prod(sizes)))
            self.look_at(sizes, lot, drawn_lot_row(draw, sizes, lot), drawn_lot_row(draw, sizes, lot))

    def test_always_for_a_prime_number_and_fewer_persons(self):
        draw = random.Random(634)
        for number in filter(is_prime, range(2, 24)):
            for _ in range(20):
                lot = drawn_lot(draw, (number,), draw.randint(1, min(6, number - 1)))
                row, second = drawn_lot_row(draw, (number,), lot), drawn_lot_row(draw, (number,), lot)
                moves, others = self.told(seated_on, dials=(number,), lot=lot, row=row, second=second)
                self.assertTrue(good_seating((number,), lot, row, moves))
                ends = [own_plus((number,), *pair) for pair in zip(lot, moves)]
                self.assertEqual(sorted(others), list(second))
                self.assertEqual(len({own_plus((number,), *pair) for pair in zip(ends, others)}), len(lot))

    def test_what_is_no_second_row(self):
        for second in (None, (), ((0,),), ((0,), (2,), (2,)), ((2,), (0,)), [(0,), (2,)], ((False,), (2,)),
                       ((0,), (4,)), (0, 2), {(0,): (2,)}, "02", ((0, 0), (0, 2))):
            self.refused(errors.BadSecond, seated_on, dials=(4,), lot=LOT4, row=ROW4, second=second)
