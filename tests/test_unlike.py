"""Promise 40: unlike dealings and near ones."""

import collections
import random

from movedround import errors
from movedround.behind import sent_on
from movedround.unlike import is_near, is_unlike, missed, near, unlike
from tests.support import Case, all_dials, anything, dealings_by_row, drawn_dealing, good_dealing, good_unlike
from tests.support import near_misses, own_halves, own_places, own_plus, own_unlike

NEAR4 = ((2,), (2,), (3,), (1,))
UNLIKE22 = ((0, 0), (1, 0), (1, 1), (0, 1))


def good_near(sizes, move, thing):
    """Whether it is a near dealing for the move, as the point says it."""
    if len(own_halves(sizes)) != 1 or not good_dealing(sizes, thing):
        return False
    often = collections.Counter(thing)
    twice = own_plus(sizes, move, own_halves(sizes)[0])
    return all(often[place] == {move: 0, twice: 2}.get(place, 1) for place in own_places(sizes))


class Unlike(Case):

    def test_examples_by_hand(self):
        self.assertIs(self.told(is_unlike, dials=(2, 2), thing=UNLIKE22), True)
        self.assertIs(self.told(is_near, dials=(4,), move=(0,), thing=NEAR4), True)
        self.assertIs(self.told(is_unlike, dials=(4,), thing=NEAR4), False)
        self.assertEqual(self.told(missed, dials=(4,), dealing=NEAR4), ((0,),))

    def test_there_is_one_exactly_if_there_is_not_just_one_half(self):
        for sizes in all_dials(24):
            found = self.told(unlike, dials=sizes)
            self.assertEqual(found is None, len(own_halves(sizes)) == 1, sizes)
            if found is not None:
                self.assertTrue(good_unlike(sizes, found))
                self.assertIs(self.told(is_unlike, dials=sizes, thing=found), True)
                self.assertEqual(self.told(missed, dials=sizes, dealing=found), ())
        for sizes in all_dials(8):
            self.assertEqual(unlike(sizes) is None, not own_unlike(sizes))

    def test_near_for_each_move(self):
        for sizes in all_dials(24):
            for move in own_places(sizes):
                if len(own_halves(sizes)) == 1:
                    found = self.told(near, dials=sizes, move=move)
                    self.assertTrue(good_near(sizes, move, found))
                    self.assertIs(self.told(is_near, dials=sizes, move=move, thing=found), True)
                    self.assertEqual(self.told(missed, dials=sizes, dealing=found), (move,))
                else:
                    self.refused(errors.NotOneHalf, near, dials=sizes, move=move)
                    for thing in (unlike(sizes), None, (move,) * len(own_places(sizes))):
                        self.assertIs(self.told(is_near, dials=sizes, move=move, thing=thing), False)
        for sizes in ((2, 2), (3,), (4,)):
            for move in ((4, 4), (True,), [0], 0, None, (5,)):
                self.refused(errors.BadMove, near, dials=sizes, move=move)
                self.refused(errors.BadMove, is_near, dials=sizes, move=move, thing=None)

    def test_what_is_missed(self):
        for sizes in ((2,), (3,), (4,), (2, 2), (5,), (6,)):
            for some in dealings_by_row(sizes).values():
                found = self.told(missed, dials=sizes, dealing=some[0])
                self.assertEqual(found, tuple(place for place in own_places(sizes) if place not in some[0]))
                if len(found) == 1:
                    self.assertEqual(len(own_halves(sizes)), 1)
                    self.assertTrue(all(is_near(sizes, found[0], moves) for moves in some))
        draw = random.Random(80)
        for sizes in all_dials(24):
            moves = drawn_dealing(draw, sizes)
            own = tuple(place for place in own_places(sizes) if place not in moves)
            self.assertEqual(self.told(missed, dials=sizes, dealing=moves), own)
        for moves in (((0,), (0,), (1,)), ((0,), (1,)), [(0,), (1,), (2,)], ((0,), (1,), (True,)), None):
            self.refused(errors.BadDealing, missed, dials=(3,), dealing=moves)

    def test_any_value_is_judged_as_described(self):
        for sizes in ((2, 2), (3,), (5,), (2, 4)):
            valid = UNLIKE22 if sizes == (2, 2) else unlike(sizes)
            for thing in anything() + list(near_misses(valid)):
                self.assertIs(self.told(is_unlike, dials=sizes, thing=thing), good_unlike(sizes, thing), thing)
        for sizes, move, valid in (((4,), (0,), NEAR4), ((2,), (0,), ((1,), (1,))), ((2,), (1,), ((0,), (0,))),
                                   ((6,), (5,), near((6,), (5,))), ((2, 3), (1, 1), near((2, 3), (1, 1)))):
            for thing in anything() + list(near_misses(valid)):
                judged = self.told(is_near, dials=sizes, move=move, thing=thing)
                self.assertIs(judged, good_near(sizes, move, thing), thing)
        for sizes in ((2,), (4,), (3,), (2, 2), (5,)):
            for some in dealings_by_row(sizes).values():
                for moves in some:
                    self.assertIs(is_unlike(sizes, moves), good_unlike(sizes, moves))
                    for move in own_places(sizes):
                        self.assertIs(is_near(sizes, move, moves), good_near(sizes, move, moves))

    def test_near_for_another_move_is_not_near(self):
        for move in own_places((4,)):
            for other in own_places((4,)):
                thing = sent_on((4,), NEAR4, other)
                self.assertIs(self.told(is_near, dials=(4,), move=move, thing=thing), move == other)
