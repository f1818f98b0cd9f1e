"""Promise 81: cuts of squares, and their surplus."""

import math
import random

from movedround import errors
from movedround.cuts import cuts, is_cut, surplus_total
from movedround.dials import whole
from movedround.squares import surplus
from tests.judges_squares import drawn_square, good_cut, own_cuts, own_square, total_at
from tests.support import Case, all_dials, anything, near_misses, nothing, own_halves, own_places, own_plus, own_total
from tests.support import own_unlike
from tests.test_squares import SWITCHED4, WRONG_SQUARES

CUT4 = ((1,), (0,), (2,), (3,))


class Cuts(Case):

    def test_example_by_hand(self):
        found = surplus((4,), SWITCHED4)
        there = {(line, column) for line in range(4) for column in range(4) if found[line][column] != (0,)}
        self.assertEqual(there, {(0, 1), (0, 3), (2, 1), (2, 3)})
        self.assertEqual({found[line][column] for line, column in there}, {(2,)})
        self.assertIs(self.told(is_cut, dials=(4,), square=SWITCHED4, thing=CUT4), True)
        self.assertEqual([line[column] for line, (column,) in zip(SWITCHED4, CUT4)], [(3,), (1,), (0,), (2,)])
        self.assertEqual(self.told(surplus_total, dials=(4,), square=SWITCHED4, columns=CUT4), (2,))
        self.assertIn(CUT4, self.told(cuts, dials=(4,), square=SWITCHED4))

    def test_all_cuts(self):
        draw = random.Random(810)
        for sizes in all_dials(7):
            for square in (own_square(sizes), drawn_square(draw, sizes), drawn_square(draw, sizes, 15)):
                found = self.told(cuts, dials=sizes, square=square)
                self.assertEqual(found, own_cuts(sizes, square))
                for cut in found:
                    self.assertIs(is_cut(sizes, square, cut), True)
                    self.assertEqual(surplus_total(sizes, square, cut), whole(sizes))
                if len(own_halves(sizes)) == 1:
                    changed = surplus(sizes, square)
                    for cut in found:
                        taken = [line[own_places(sizes).index(column)] for line, column in zip(changed, cut)]
                        self.assertTrue(any(each != nothing(sizes) for each in taken))

    def test_cuts_of_square_are_the_unlike_dealings(self):
        for sizes in all_dials(7):
            self.assertEqual(self.told(cuts, dials=sizes, square=own_square(sizes)), own_unlike(sizes))
            self.assertEqual(cuts(sizes, own_square(sizes)) == [], len(own_halves(sizes)) == 1)
        for sizes in ((8,), (9,), (2, 4), (3, 3)):
            for moves in own_unlike(sizes)[:40]:
                self.assertIs(self.told(is_cut, dials=sizes, square=own_square(sizes), thing=moves), True)

    def test_surplus_total(self):
        draw = random.Random(811)
        for sizes in all_dials(24):
            places = own_places(sizes)
            for square in (own_square(sizes), drawn_square(draw, sizes)):
                for _ in range(3):
                    columns = tuple(draw.sample(places, len(places)))
                    found = self.told(surplus_total, dials=sizes, square=square, columns=columns)
                    changed = surplus(sizes, square)
                    own = own_total(sizes, [line[places.index(y)] for line, y in zip(changed, columns)])
                    self.assertEqual(found, own)
                    self.assertEqual(found, total_at(sizes, square, columns))

    def test_surplus_total_is_the_total_of_the_places_but_twice_whole(self):
        """The columns, and the lines, come to whole each: twice whole is nothing, so nothing is left of them."""
        draw = random.Random(812)
        for sizes in all_dials(24):
            self.assertEqual(own_plus(sizes, whole(sizes), whole(sizes)), nothing(sizes))
            square = own_square(sizes)
            columns = tuple(draw.sample(own_places(sizes), math.prod(sizes)))
            self.assertEqual(total_at(sizes, square, columns), nothing(sizes))

    def test_any_value_is_judged_as_described(self):
        draw = random.Random(813)
        for sizes, square, valid in (((4,), SWITCHED4, CUT4), ((3,), own_square((3,)), own_unlike((3,))[0]),
                                     ((2, 2), own_square((2, 2)), own_unlike((2, 2))[3]),
                                     ((2,), own_square((2,)), ((0,), (1,)))):
            drawn = [tuple(draw.sample(own_places(sizes), len(valid))) for _ in range(10)]
            for thing in anything() + list(near_misses(valid)) + drawn:
                judged = self.told(is_cut, dials=sizes, square=square, thing=thing)
                self.assertIs(judged, good_cut(sizes, square, thing), thing)

    def test_too_many(self):
        for sizes in all_dials(12):
            if math.prod(sizes) > 7:
                self.too_many(7, cuts, dials=sizes, square=own_square(sizes))
        self.assertEqual(len(self.told(cuts, dials=(7,), square=own_square((7,)))), 133)

    def test_what_is_no_square_and_what_are_no_columns(self):
        for square in WRONG_SQUARES:
            self.refused(errors.BadSquare, cuts, dials=(4,), square=square)
            self.refused(errors.BadSquare, is_cut, dials=(4,), square=square, thing=None)
            self.refused(errors.BadSquare, surplus_total, dials=(4,), square=square, columns=None)
        for columns in (None, list(CUT4), CUT4[1:], CUT4 + CUT4[:1], ((1,), (1,), (2,), (3,)), (0, 1, 2, 3), (),
                        ((True,), (0,), (2,), (3,)), ((4,), (0,), (2,), (3,)), "1023", {(0,): 1}, 0):
            self.refused(errors.BadColumns, surplus_total, dials=(4,), square=SWITCHED4, columns=columns)
        self.assertEqual(surplus_total((4,), SWITCHED4, CUT4[::-1]), total_at((4,), SWITCHED4, CUT4[::-1]))
