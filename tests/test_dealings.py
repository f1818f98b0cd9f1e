"""Promise 20: moves, ends, rows and dealings."""

import random

from movedround import errors
from movedround.dealings import dealing, ends, is_dealing, is_dealing_of, row_of
from movedround.dials import total
from tests.support import Case, all_dials, all_rows, anything, dealings_by_row, drawn_dealing, drawn_row, good_dealing
from tests.support import near_misses, nothing, own_ends, own_halves, own_places, own_total

FEW = [(2,), (3,), (4,), (2, 2), (5,), (6,), (2, 3)]


class Dealings(Case):

    def test_example_by_hand(self):
        row = ((0,), (1,), (2,))
        self.assertEqual(self.told(ends, dials=(3,), moves=row), [(0,), (2,), (1,)])
        self.assertIs(self.told(is_dealing, dials=(3,), thing=row), True)
        self.assertIs(self.told(is_dealing_of, dials=(3,), row=row, thing=row), True)
        found = self.told(dealing, dials=(3,), row=row)
        self.assertIs(self.told(is_dealing_of, dials=(3,), row=row, thing=found), True)
        self.assertIsNone(self.told(dealing, dials=(3,), row=((0,), (0,), (1,))))

    def test_a_row_has_a_dealing_exactly_if_its_total_is_nothing(self):
        for sizes in FEW:
            for row in all_rows(sizes):
                found = self.told(dealing, dials=sizes, row=row)
                self.assertEqual(found is not None, row in dealings_by_row(sizes), (sizes, row))
                self.assertEqual(found is not None, own_total(sizes, row) == nothing(sizes))
                if found is not None:
                    self.assertTrue(good_dealing(sizes, found) and tuple(sorted(found)) == row)

    def test_drawn_rows_of_all_dials(self):
        draw = random.Random(20)
        for sizes in all_dials(24):
            for _ in range(3):
                row = drawn_row(draw, sizes, nothing(sizes))
                found = self.told(dealing, dials=sizes, row=row)
                self.assertTrue(good_dealing(sizes, found) and tuple(sorted(found)) == row, (sizes, row))
            for goal in draw.sample(own_places(sizes)[1:], 1):
                self.assertIsNone(self.told(dealing, dials=sizes, row=drawn_row(draw, sizes, goal)))
            all_moves = self.told(dealing, dials=sizes, row=tuple(own_places(sizes)))
            self.assertEqual(all_moves is None, len(own_halves(sizes)) == 1)

    def test_facts(self):
        draw = random.Random(21)
        for sizes in all_dials(24):
            moves = drawn_dealing(draw, sizes)
            self.assertEqual(sorted(self.told(ends, dials=sizes, moves=moves)), own_places(sizes))
            self.assertEqual(total(sizes, moves), nothing(sizes))
            row = self.told(row_of, dials=sizes, dealing=moves)
            self.assertEqual(row, tuple(sorted(moves)))
            self.assertIs(self.told(is_dealing_of, dials=sizes, row=row, thing=moves), True)

    def test_ends_of_moves_that_are_no_dealing(self):
        self.assertEqual(self.told(ends, dials=(3,), moves=((0,), (2,), (2,))), [(0,), (0,), (1,)])
        for sizes in ((2,), (3,), (2, 2)):
            for row in all_rows(sizes):
                self.assertEqual(self.told(ends, dials=sizes, moves=row), own_ends(sizes, row))

    def test_any_value_is_judged_as_described(self):
        for sizes, valid in (((3,), ((0,), (1,), (2,))), ((2,), ((1,), (1,))), ((4,), ((1,), (1,), (2,), (0,))),
                             ((2, 2), ((0, 0), (1, 0), (1, 1), (0, 1)))):
            row = tuple(sorted(valid))
            for thing in anything() + list(near_misses(valid)):
                good = good_dealing(sizes, thing)
                self.assertIs(self.told(is_dealing, dials=sizes, thing=thing), good, thing)
                of_row = good and tuple(sorted(thing)) == row
                self.assertIs(self.told(is_dealing_of, dials=sizes, row=row, thing=thing), of_row, thing)
        for sizes in ((3,), (4,), (2, 2)):
            for row in list(dealings_by_row(sizes)):
                for moves in [each for some in dealings_by_row(sizes).values() for each in some]:
                    self.assertIs(is_dealing_of(sizes, row, moves), tuple(sorted(moves)) == row)

    def test_a_row_whose_total_is_not_nothing_has_none(self):
        self.assertIs(self.told(is_dealing_of, dials=(2,), row=((0,), (1,)), thing=((0,), (1,))), False)
        self.assertIs(self.told(is_dealing_of, dials=(2,), row=((0,), (1,)), thing=((0,), (0,))), False)

    def test_edges(self):
        self.assertEqual(self.told(dealing, dials=(2,), row=((1,), (1,))), ((1,), (1,)))
        for row in (((1,), (0,), (2,)), [(0,), (1,), (2,)], ((0,), (1,)), ((0,), (0,), (1,), (2,)), ((0,), (1,), (3,)),
                    ((False,), (True,), (2,)), ((0,), (1,), [2]), (0, 1, 2), None):
            self.refused(errors.BadRow, dealing, dials=(3,), row=row)
            self.refused(errors.BadRow, is_dealing_of, dials=(3,), row=row, thing=None)
        for moves in ([(0,), (1,), (2,)], ((0,), (1,)), ((0,), (1,), (True,)), ((0,), (1,), (3,)), None, ()):
            self.refused(errors.BadMoves, ends, dials=(3,), moves=moves)
            self.refused(errors.BadDealing, row_of, dials=(3,), dealing=moves)
        self.refused(errors.BadDealing, row_of, dials=(3,), dealing=((0,), (0,), (1,)))
        self.refused(errors.BadDealing, row_of, dials=(3,), dealing=((0,), (2,), (2,)))
