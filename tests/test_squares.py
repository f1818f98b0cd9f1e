"""Promise 80: squares, their surplus, and lines that exchange cells."""

import math
import random

from movedround import errors
from movedround.squares import is_square, square, surplus, switched
from tests.judges import good_square
from tests.judges_squares import drawn_square, own_ring, own_square, own_surplus
from tests.support import Case, all_dials, anything, near_misses, nothing, own_places

SWITCHED4 = tuple(tuple((int(at),) for at in line) for line in ("0321", "1230", "2103", "3012"))
WRONG_SQUARES = (None, (), [], list(own_square((4,))), own_square((4,))[1:], own_square((4,)) + own_square((4,))[:1],
                 tuple(map(list, own_square((4,)))), own_square((4,))[:3] + own_square((4,))[:1], own_square((2, 2)),
                 tuple(line[::1] if at else line[1:] + line[:1] for at, line in enumerate(own_square((4,)))), 0, "0123",
                 tuple(((0,), (1,), (2,), (2,)) for _ in range(4)), ((0, 1, 2, 3),) * 4, own_square((3,)),
                 tuple(tuple((at[0] > 0,) if at[0] < 2 else at for at in line) for line in own_square((4,))))


class Squares(Case):

    def test_example_by_hand(self):
        found = self.told(square, dials=(4,))
        self.assertEqual(found, own_square((4,)))
        self.assertEqual([found[0][1], found[2][1], found[0][3], found[2][3]], [(1,), (3,), (3,), (1,)])
        found = self.told(switched, dials=(4,), square=found, one=(0,), other=(2,), column=(1,))
        self.assertEqual(found, SWITCHED4)
        self.assertEqual(own_ring((4,), own_square((4,)), (0,), (2,), (1,)), [(1,), (3,)])

    def test_square_and_its_surplus(self):
        for sizes in all_dials(24):
            found = self.told(square, dials=sizes)
            self.assertEqual(found, own_square(sizes))
            self.assertIs(self.told(is_square, dials=sizes, thing=found), True)
            self.assertTrue(good_square(sizes, found))
            n = math.prod(sizes)
            self.assertEqual(self.told(surplus, dials=sizes, square=found), ((nothing(sizes),) * n,) * n)

    def test_surplus_of_drawn_squares(self):
        draw = random.Random(800)
        for sizes in all_dials(24):
            for _ in range(2):
                one = drawn_square(draw, sizes)
                self.assertEqual(self.told(surplus, dials=sizes, square=one), own_surplus(sizes, one))

    def test_any_value_is_judged_as_described(self):
        draw = random.Random(801)
        for sizes in ((2,), (3,), (4,), (2, 2), (5,)):
            valid = drawn_square(draw, sizes)
            changed = [valid[:1] + line for line in (valid[2:], valid[:1] + valid[2:], valid[1:][::-1])]
            inner = [valid[:1] + (other,) + valid[2:] for other in near_misses(valid[1])]
            for thing in anything() + list(near_misses(valid)) + changed + inner:
                judged = self.told(is_square, dials=sizes, thing=thing)
                self.assertIs(judged, good_square(sizes, thing), thing)
        for thing in WRONG_SQUARES:
            self.assertIs(self.told(is_square, dials=(4,), thing=thing), False)

    def test_two_equal_places_in_a_line_or_in_a_column(self):
        lines = (((0,), (0,)), ((1,), (1,)))
        for thing in (lines, tuple(zip(*lines))):
            self.assertIs(self.told(is_square, dials=(2,), thing=thing), False)
        self.assertIs(self.told(is_square, dials=(2,), thing=own_square((2,))[::-1]), True)

    def test_squares_that_are_none(self):
        for thing in WRONG_SQUARES:
            self.refused(errors.BadSquare, surplus, dials=(4,), square=thing)
            self.refused(errors.BadSquare, switched, dials=(4,), square=thing, one=None, other=None, column=None)


class Switched(Case):

    def look_at(self, sizes, valid, one, other, column):
        told = {"dials": sizes, "square": valid, "one": one, "other": other, "column": column}
        found = self.told(switched, **told)
        self.assertTrue(good_square(sizes, found))
        self.assertEqual(switched(**{**told, "square": found}), valid)
        places = own_places(sizes)
        ring = [places[at] for at in range(len(places))
                if found[places.index(one)][at] != valid[places.index(one)][at]]
        if len(places) <= 12:
            self.assertEqual(ring, own_ring(sizes, valid, one, other, column))
        self.assertIn(column, ring)
        for at, (before, behind) in enumerate(zip(valid, found)):
            if places[at] not in (one, other):
                self.assertEqual(before, behind)
        for at, place in enumerate(places):
            before = (valid[places.index(one)][at], valid[places.index(other)][at])
            behind = (found[places.index(one)][at], found[places.index(other)][at])
            self.assertEqual(behind, before[::-1] if place in ring else before)

    def test_all_of_few_places(self):
        draw = random.Random(802)
        for sizes in all_dials(5):
            for valid in (own_square(sizes), drawn_square(draw, sizes)):
                for one in own_places(sizes):
                    for other in own_places(sizes):
                        for column in own_places(sizes):
                            if one != other:
                                self.look_at(sizes, valid, one, other, column)

    def test_drawn(self):
        draw = random.Random(803)
        for sizes in all_dials(24):
            for _ in range(2):
                one, other = draw.sample(own_places(sizes), 2)
                self.look_at(sizes, drawn_square(draw, sizes), one, other, draw.choice(own_places(sizes)))

    def test_what_is_no_line_or_column(self):
        told = {"dials": (4,), "square": own_square((4,))}
        for value in ((4,), (True,), [0], 0, None, "0", (), (0, 0), {(0,): 0}):
            self.refused(errors.BadLine, switched, **told, one=value, other=(1,), column=(0,))
            self.refused(errors.BadLine, switched, **told, one=(0,), other=value, column=None)
            self.refused(errors.BadColumn, switched, **told, one=(0,), other=(1,), column=value)
        for line in own_places((4,)):
            self.refused(errors.BadLine, switched, **told, one=line, other=line, column=None)
