"""Promise 82: partings of squares, and mates."""

import math
import random

from movedround import errors
from movedround.apart import are_apart
from movedround.cuts import cuts
from movedround.mates import are_mates, is_parting, mate, parting, parting_by, shift_parting, squares_of
from movedround.squares import square
from movedround.straight import multiplied
from movedround.unlike import unlike
from tests.judges import good_bundle, good_square, own_apart
from tests.judges_squares import drawn_square, good_parting, own_bundles, own_mates, own_square
from tests.support import Case, all_dials, anything, near_misses, nothing, own_halves, own_minus, own_places, own_plus
from tests.support import own_unlike
from tests.test_squares import SWITCHED4, WRONG_SQUARES


def renamed_square(draw, sizes, one):
    """The square with other names for its places, drawn."""
    name_of = dict(zip(own_places(sizes), draw.sample(own_places(sizes), math.prod(sizes))))
    return tuple(tuple(name_of[place] for place in line) for line in one)


def square_by(sizes, moves):
    return tuple(tuple(own_minus(sizes, y, move) for y in own_places(sizes)) for move in moves)


def own_parting(sizes, one):
    """Whether there is a parting: by trying all cuts for each cell of the first line."""
    found = cuts(sizes, one)

    def go_on(chosen):
        if len(chosen) == len(one):
            return True
        column = own_places(sizes)[len(chosen)]
        return any(go_on(chosen + [cut]) for cut in found if cut[0] == column
                   and not any(x == y for other in chosen for x, y in zip(cut, other)))

    return go_on([])


class Partings(Case):

    def test_example(self):
        bundle = (multiplied((3,), 1),)
        found = self.told(squares_of, dials=(3,), bundle=bundle)
        written = ["".join(str(place[0]) for place in line) for one in found for line in one]
        self.assertEqual(written, ["012", "120", "201", "012", "201", "120"])
        self.assertTrue(cuts((4,), SWITCHED4))
        self.assertEqual(cuts((4,), own_square((4,))), [])

    def test_parting_of_square(self):
        for sizes in all_dials(6):
            found = self.told(parting, dials=sizes, square=own_square(sizes))
            self.assertEqual(found is None, len(own_halves(sizes)) == 1)
            self.assertEqual(found is None, not own_unlike(sizes))
            if found is not None:
                self.look_at(sizes, own_square(sizes), found)

    def test_parting_of_drawn_squares(self):
        draw = random.Random(820)
        seen = set()
        for sizes in all_dials(6):
            for number in range(6):
                one = drawn_square(draw, sizes, number * 2)
                found = self.told(parting, dials=sizes, square=one)
                self.assertEqual(found is not None, own_parting(sizes, one))
                seen.add(found is None)
                if found is not None:
                    self.look_at(sizes, one, found)
        self.assertEqual(seen, {True, False})

    def look_at(self, sizes, one, found):
        """There and back: the parting, the mate that comes of it, the parting by this one."""
        self.assertTrue(good_parting(sizes, one, found))
        self.assertIs(self.told(is_parting, dials=sizes, square=one, thing=found), True)
        self.assertIs(is_parting(sizes, one, tuple(found)), True)
        other = self.told(mate, dials=sizes, square=one, parting=found)
        self.assertTrue(good_square(sizes, other))
        for place, cut in zip(own_places(sizes), found):
            for line, column in zip(other, cut):
                self.assertEqual(line[own_places(sizes).index(column)], place)
        self.assertIs(self.told(are_mates, dials=sizes, one=one, other=other), True)
        self.assertIs(self.told(are_mates, dials=sizes, one=other, other=one), True)
        self.assertEqual(self.told(parting_by, dials=sizes, one=one, other=other), found)
        self.assertTrue(good_parting(sizes, other, parting_by(sizes, other, one)))

    def test_shift_parting(self):
        draw = random.Random(821)
        for sizes in all_dials(9):
            for moves in draw.sample(own_unlike(sizes), min(12, len(own_unlike(sizes)))):
                found = self.told(shift_parting, dials=sizes, dealing=moves)
                own = sorted(tuple(own_plus(sizes, move, place) for move in moves) for place in own_places(sizes))
                self.assertEqual(found, own)
                self.look_at(sizes, own_square(sizes), found)
        for sizes in ((15,), (2, 2, 6), (4, 4), (23,)):
            self.look_at(sizes, own_square(sizes), shift_parting(sizes, unlike(sizes)))

    def test_parting_by_any_mate(self):
        draw = random.Random(822)
        for sizes in ((3,), (2, 2), (5,), (7,), (2, 4), (3, 3)):
            for moves in own_unlike(sizes)[:8]:
                one, other = own_square(sizes), renamed_square(draw, sizes, square_by(sizes, moves))
                self.assertIs(self.told(are_mates, dials=sizes, one=one, other=other), True)
                found = self.told(parting_by, dials=sizes, one=one, other=other)
                self.assertTrue(good_parting(sizes, one, found))
                self.assertTrue(own_mates(one, mate(sizes, one, found)))

    def test_any_value_is_judged_as_described(self):
        for sizes in ((3,), (2, 2), (2,), (5,), (4,)):
            one = own_square(sizes)
            valid = shift_parting(sizes, own_unlike(sizes)[0]) if own_unlike(sizes) else list(own_square(sizes))
            inner = [valid[:1] + [each] + valid[2:] for each in near_misses(valid[1])]
            others = [valid[:1] + [cut] + valid[2:] for cut in own_unlike(sizes)[:20]]
            for thing in anything() + list(near_misses(valid)) + inner + others + [valid[::-1], tuple(valid)]:
                judged = self.told(is_parting, dials=sizes, square=one, thing=thing)
                self.assertIs(judged, good_parting(sizes, one, thing), thing)
                if not judged:
                    self.refused(errors.BadParting, mate, dials=sizes, square=one, parting=thing)

    def test_partings_that_are_none(self):
        one = own_square((3,))
        valid = shift_parting((3,), own_unlike((3,))[0])
        for thing in (valid[::-1], valid[:2], valid + valid[-1:], [valid[0], valid[0], valid[1]], valid[0], None, {},
                      [list(cut) for cut in valid], valid[1:] + valid[:1], [valid[0], valid[1], valid[1]]):
            self.assertIs(self.told(is_parting, dials=(3,), square=one, thing=thing), False)
            self.refused(errors.BadParting, mate, dials=(3,), square=one, parting=thing)
        # Ascending cuts, of which two have a cell in common.
        cut5 = own_unlike((5,))
        wrong = sorted(shift_parting((5,), cut5[0])[:4] + [cut5[1] if cut5[1][0] == (4,) else cut5[-1]])
        self.assertEqual(is_parting((5,), own_square((5,)), wrong), good_parting((5,), own_square((5,)), wrong))

    def test_too_many(self):
        for sizes in all_dials(9):
            if math.prod(sizes) > 6:
                self.too_many(6, parting, dials=sizes, square=own_square(sizes))
        self.assertIsNone(self.told(parting, dials=(6,), square=own_square((6,))))
        self.assertIsNone(self.told(parting, dials=(2, 3), square=own_square((2, 3))))


class Mates(Case):

    def test_as_described(self):
        draw = random.Random(823)
        seen = set()
        for sizes in all_dials(9):
            some = [own_square(sizes), drawn_square(draw, sizes), renamed_square(draw, sizes, own_square(sizes))]
            some += [square_by(sizes, moves) for moves in own_unlike(sizes)[:4]]
            for one in some:
                for other in some:
                    found = self.told(are_mates, dials=sizes, one=one, other=other)
                    self.assertIs(found, own_mates(one, other))
                    seen.add(found)
                    if not found:
                        self.refused(errors.NotMates, parting_by, dials=sizes, one=one, other=other)
                    else:
                        self.assertTrue(good_parting(sizes, one, parting_by(sizes, one, other)))
        self.assertEqual(seen, {True, False})

    def test_squares_of(self):
        draw = random.Random(824)
        for sizes in all_dials(9):
            for bundle in own_bundles(sizes, draw, 3):
                self.assertTrue(good_bundle(sizes, bundle))
                found = self.told(squares_of, dials=sizes, bundle=bundle)
                self.assertEqual(found, [own_square(sizes)] + [square_by(sizes, moves) for moves in bundle])
                self.assertEqual(found[0], square(sizes))
                for at, one in enumerate(found):
                    self.assertTrue(good_square(sizes, one))
                    for other in found[at + 1:]:
                        self.assertIs(are_mates(sizes, one, other), True)
        self.assertEqual(self.told(squares_of, dials=(6,), bundle=()), [own_square((6,))])

    def test_mates_exactly_if_apart(self):
        draw = random.Random(825)
        seen = set()
        for sizes in ((3,), (2, 2), (5,), (7,), (2, 4), (2, 2, 2), (3, 3)):
            for _ in range(25):
                one, other = draw.choice(own_unlike(sizes)), draw.choice(own_unlike(sizes))
                apart = are_apart(sizes, one, other)
                self.assertIs(apart, own_apart(sizes, one, other))
                self.assertIs(are_mates(sizes, square_by(sizes, one), square_by(sizes, other)), apart)
                seen.add(apart)
        self.assertEqual(seen, {True, False})

    def test_what_is_refused(self):
        valid = own_square((4,))
        for value in WRONG_SQUARES:
            self.refused(errors.BadSquare, is_parting, dials=(4,), square=value, thing=None)
            self.refused(errors.BadSquare, parting, dials=(4,), square=value)
            self.refused(errors.BadSquare, mate, dials=(4,), square=value, parting=None)
            for function in (are_mates, parting_by):
                self.refused(errors.BadSquare, function, dials=(4,), one=value, other=None)
                self.refused(errors.BadSquare, function, dials=(4,), one=valid, other=value)
        for dealing in (None, (), own_unlike((3,)), list(own_unlike((3,))[0]), ((0,), (0,), (0,)), ((1,), (0,), (2,)),
                        ((0,), (2,)), ((False,), (1,), (2,)), 0, "012", {(0,): (0,)}):
            self.refused(errors.BadUnlike, shift_parting, dials=(3,), dealing=dealing)
        one, other = own_unlike((5,))[0], multiplied((5,), 1)
        for bundle in (None, [one], (one, one), one, (other, None), 0, ((nothing((5,)),) * 5,), (list(one),), {},
                       (max(own_unlike((5,))), min(own_unlike((5,))))):
            self.refused(errors.BadBundle, squares_of, dials=(5,), bundle=bundle)
