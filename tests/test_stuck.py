"""Promise 62: a seating or a tree of cases, never both."""

import itertools
import math
import random

from movedround import errors
from movedround.seatings import seating
from movedround.stuck import is_stuck, stuck
from tests.judges import good_stuck
from tests.support import Case, all_dials, anything, near_misses, own_places, own_plus
from tests.test_lots import WRONG_LOTS, drawn_lot, drawn_lot_row
from tests.test_seatings import all_lots

LOT4, ROW4 = ((0,), (2,)), ((0,), (2,))
TREE4 = ((0,), {(0,): ((2,), {}), (2,): ((2,), {})})
LOT6, ROW6 = ((0,), (2,), (4,), (5,)), ((0,), (0,), (4,), (4,))


def backwards(tree):
    person, branches = tree
    return person, {move: backwards(branches[move]) for move in reversed(list(branches))}


def loose_tree(sizes, left, ends, persons):
    """A tree for these persons, one after another, whoever they are."""
    person, *others = persons
    goals = {move: own_plus(sizes, person, move) for move in left}
    branches = {}
    for move, goal in goals.items():
        if goal not in ends:
            rest = list(left)
            rest.remove(move)
            branches[move] = loose_tree(sizes, rest, ends + (goal,), others)
    return person, branches


class Stuck(Case):

    def look_at(self, sizes, lot, row):
        found = self.told(stuck, dials=sizes, lot=lot, row=row)
        self.assertEqual(found is None, seating(sizes, lot, row) is not None)
        judged = self.told(is_stuck, dials=sizes, lot=lot, row=row, thing=found)
        self.assertIs(judged, found is not None)
        if found is not None:
            self.assertTrue(good_stuck(sizes, lot, row, found))
            self.assertIs(self.told(is_stuck, dials=sizes, lot=lot, row=row, thing=backwards(found)), True)
        return found is not None

    def test_a_tree_by_hand(self):
        self.assertIs(self.told(is_stuck, dials=(4,), lot=LOT4, row=ROW4, thing=TREE4), True)
        other = ((2,), {(0,): ((0,), {}), (2,): ((0,), {})})
        self.assertIs(self.told(is_stuck, dials=(4,), lot=LOT4, row=ROW4, thing=other), True)
        self.assertIn(self.told(stuck, dials=(4,), lot=LOT4, row=ROW4), (TREE4, other))
        # A seating: the tree of all its cases ends in a case with nobody left, which is no tree.
        self.assertIsNone(self.told(stuck, dials=(4,), lot=LOT4, row=((0,), (1,))))
        for thing in (((0,), {(0,): ((2,), {(1,): ()}), (1,): ((2,), {(0,): ()})}), ((0,), {}), None, {}, ((0,), None),
                      ((0,), {(0,): ((2,), {}), (1,): ((2,), {})}), ((0,), {(0,): ((2,), {(1,): None})})):
            self.assertIs(self.told(is_stuck, dials=(4,), lot=LOT4, row=((0,), (1,)), thing=thing), False)

    def test_all_lots_and_rows_of_few_places(self):
        seen = set()
        for sizes in all_dials(5):
            for lot in all_lots(sizes):
                for row in itertools.combinations_with_replacement(own_places(sizes), len(lot)):
                    seen.add(self.look_at(sizes, lot, row))
        self.assertEqual(seen, {True, False})

    def test_drawn_lots_and_rows(self):
        draw = random.Random(620)
        for sizes in all_dials(24):
            for many in (2, 3, 6):
                if many <= math.prod(sizes):
                    lot = drawn_lot(draw, sizes, many)
                    some = draw.sample(own_places(sizes), 2)
                    for row in (drawn_lot_row(draw, sizes, lot), tuple(sorted(draw.choices(some, k=many)))):
                        self.look_at(sizes, lot, row)
        for sizes, lot, row in (((6,), LOT6, ROW6), ((2, 3), own_places((2, 3)), [(1, 0)] * 5 + [(0, 1)]),
                                ((6,), own_places((6,)), own_places((6,))),
                                ((8,), ((0,), (3,), (4,), (7,)), ((0,), (4,), (4,), (4,)))):
            self.assertTrue(self.look_at(sizes, tuple(lot), tuple(sorted(row))))

    def test_any_value_is_judged_as_described(self):
        for sizes, lot, row in (((4,), LOT4, ROW4), ((6,), LOT6, ROW6), ((2,), ((0,), (1,)), ((0,), (1,))),
                                ((2, 2), ((0, 0), (1, 1)), ((0, 0), (1, 1))), ((4,), LOT4, ((0,), (1,)))):
            valid = stuck(sizes, lot, row) or TREE4
            person, branches = valid
            shorter = {move: branches[move] for move in list(branches)[1:]}
            longer = {**branches, (3,) * len(sizes): (lot[1], {}), (0,) * len(sizes): (lot[1], {})}
            things = [list(valid), (person, shorter), (person, longer), (person, list(branches.items())), branches,
                      (person, {}), (person, {**branches, None: (person, {})}), (person, branches, 0), (person,),
                      (list(person), branches), ((True,), branches), (lot[1], branches), (None, branches),
                      (person, {move: list(branches[move]) for move in branches}),
                      (person, {move: (person, branches[move][1]) for move in branches}),
                      (person, {move: {} for move in branches}), (person, {(False,): (lot[1], {}), (2,): (lot[1], {})})]
            for thing in things + anything() + list(near_misses(valid)) + list(near_misses(branches)):
                judged = self.told(is_stuck, dials=sizes, lot=lot, row=row, thing=thing)
                self.assertIs(judged, good_stuck(sizes, lot, row, thing), thing)

    def test_keys_and_items_that_are_bools(self):
        lot, row = ((0,), (1,)), ((0,), (1,))
        valid = ((0,), {(0,): ((1,), {}), (1,): ((1,), {})})
        self.assertIs(is_stuck((2,), lot, row, valid), True)
        for thing in (((False,), valid[1]), ((0,), {(False,): ((1,), {}), (1,): ((1,), {})}),
                      ((0,), {(0,): ((1,), {}), (True,): ((1,), {})}), ((0,), {(0,): ((True,), {}), (1,): ((1,), {})}),
                      ((0,), {0: ((1,), {}), 1: ((1,), {})}), ((0,), {(0,): ((1,), {}), (1,): ((1,), [])})):
            self.assertIs(self.told(is_stuck, dials=(2,), lot=lot, row=row, thing=thing), False)

    def test_persons_who_have_a_move_or_are_not_of_the_lot(self):
        """Trees that would do, but for a person who is not waiting: also where there is a seating."""
        for sizes, lot, row in (((4,), LOT4, ROW4), ((6,), LOT6, ROW6), ((3,), ((1,),), ((2,),)), ((2,), ((0,),), ((1,),)),
                                ((4,), ((0,), (2,)), ((0,), (1,))), ((2, 2), ((0, 0), (1, 1)), ((0, 0), (1, 1)))):
            for first in own_places(sizes):
                for then in own_places(sizes):
                    for last in own_places(sizes):
                        thing = loose_tree(sizes, list(row), (), (first, then, last) + (then,) * len(row))
                        judged = self.told(is_stuck, dials=sizes, lot=lot, row=row, thing=thing)
                        self.assertIs(judged, good_stuck(sizes, lot, row, thing), thing)
        self.assertIs(is_stuck((2,), ((0,),), ((1,),), ((0,), {(1,): ((0,), {})})), False)
        self.assertIs(is_stuck((2,), ((0,),), ((1,),), ((0,), {(1,): ((1,), {})})), False)

    def test_too_many(self):
        draw = random.Random(621)
        for sizes in ((7,), (2, 4), (24,), (6,)):
            for many in (6, 7, 8):
                if many <= math.prod(sizes):
                    lot = drawn_lot(draw, sizes, many)
                    row = drawn_lot_row(draw, sizes, lot)
                    if many > 6:
                        self.too_many(6, stuck, dials=sizes, lot=lot, row=row)
                        self.too_many(6, is_stuck, dials=sizes, lot=lot, row=row, thing=None)
                    else:
                        self.look_at(sizes, lot, row)
                    for function, more in ((stuck, {}), (is_stuck, {"thing": None})):
                        self.refused(errors.BadRow, function, dials=sizes, lot=lot, row=list(row), **more)
                        self.refused(errors.BadRow, function, dials=sizes, lot=lot, row=row[1:], **more)
                        self.refused(errors.BadLot, function, dials=sizes, lot=lot[::-1], row=None, **more)
        for lot in WRONG_LOTS:
            self.refused(errors.BadLot, stuck, dials=(6,), lot=lot, row=None)
            self.refused(errors.BadLot, is_stuck, dials=(6,), lot=lot, row=None, thing=None)
