"""Promise 10, and of 3 to 5 what dials and places are."""

import math

from movedround import errors
from movedround.dials import halves, less, places, plus, times, total, turn_of, whole
from tests.support import Case, all_dials, good_dials, nothing, own_halves, own_places


class Dials(Case):

    def test_one_to_four_sizes_with_a_product_of_at_most_24(self):
        for sizes in ((2,), (24,), (2, 2, 2, 2), (2, 2, 2, 3), (12, 2), (2, 12), (4, 6), (23,)):
            self.assertEqual(len(self.told(places, dials=sizes)), math.prod(sizes))
        for sizes in ((), (1,), (25,), (0,), (-2,), (1, 2), (2, 1), (5, 5), (13, 2), (2, 2, 7), (2, 2, 2, 4),
                      (2, 2, 2, 2, 2), (2, 2, 2, 2, 1), (3, 3, 3), [2], (True,), (2, True), ((2,),), ("2",), (None,),
                      (-2, -3), (24, 0), (999999999,), (10 ** 40,), (-4, -6)):
            self.refused(errors.BadDials, places, dials=sizes)

    def test_all_dials_there_are(self):
        self.assertEqual(len(all_dials(24)), len([sizes for sizes in all_dials(24) if good_dials(sizes)]))
        for sizes in all_dials(24):
            self.assertEqual(self.told(places, dials=sizes), own_places(sizes))


class Counting(Case):

    def test_examples_by_hand(self):
        self.assertEqual(self.told(halves, dials=(2, 4)), [(0, 2), (1, 0), (1, 2)])
        self.assertEqual(self.told(whole, dials=(2, 4)), (0, 0))
        self.assertEqual(self.told(halves, dials=(6,)), [(3,)])
        self.assertEqual(self.told(whole, dials=(6,)), (3,))
        self.assertEqual(self.told(total, dials=(6,), several=[(0,), (1,), (2,), (3,), (4,), (5,)]), (3,))

    def test_plus_and_less_go_dial_by_dial(self):
        for sizes in ((2,), (5,), (2, 3), (2, 2, 2), (4, 3), (2, 2, 2, 3)):
            for one in own_places(sizes):
                for other in own_places(sizes):
                    both = self.told(plus, dials=sizes, one=one, other=other)
                    self.assertEqual(both, tuple((a + b) % s for a, b, s in zip(one, other, sizes)))
                    self.assertEqual(self.told(less, dials=sizes, one=both, other=other), one)

    def test_total(self):
        self.assertEqual(self.told(total, dials=(2, 4), several=[]), (0, 0))
        self.assertEqual(self.told(total, dials=(2, 4), several=()), (0, 0))
        self.assertEqual(self.told(total, dials=(2, 4), several=[(1, 3)]), (1, 3))
        self.assertEqual(self.told(total, dials=(2, 4), several=[(1, 3), (1, 3), (1, 3)]), (1, 1))
        self.assertEqual(self.told(total, dials=(2, 4), several=((1, 3), (0, 2))), (1, 1))
        for several in ([(1, 4)], [(2, 0)], [(0, -1)], [(0,)], [(0, 0, 0)], [[0, 0]], [(True, 0)], [(0, False)],
                        (0, 0), "", None, {(0, 0): (0, 0)}, {}, [(0, 0), None]):
            self.refused(errors.BadSeveral, total, dials=(2, 4), several=several)

    def test_times(self):
        for sizes in ((5,), (2, 4), (2, 2, 3)):
            for place in own_places(sizes):
                so_far = nothing(sizes)
                for number in range(0, 26):
                    self.assertEqual(self.told(times, dials=sizes, place=place, number=number), so_far)
                    back = self.told(times, dials=sizes, place=place, number=-number)
                    self.assertEqual(plus(sizes, back, so_far), nothing(sizes))
                    so_far = plus(sizes, so_far, place)
        self.assertEqual(self.told(times, dials=(7,), place=(3,), number=999999999), (3 * 999999999 % 7,))
        self.assertEqual(self.told(times, dials=(7,), place=(3,), number=-999999999), (-3 * 999999999 % 7,))
        for number in (1000000000, -1000000000, 10 ** 30, True, False, None, "1", (1,), [1]):
            self.refused(errors.BadNumber, times, dials=(7,), place=(3,), number=number)

    def test_turn_of_is_the_least_number(self):
        for sizes in all_dials(24):
            for place in own_places(sizes):
                turn = turn_of(sizes, place)
                back = [k for k in range(1, turn + 1) if all(at * k % s == 0 for at, s in zip(place, sizes))]
                self.assertEqual(back, [turn])
        self.assertEqual(self.told(turn_of, dials=(2, 4), place=(0, 0)), 1)
        self.assertEqual(self.told(turn_of, dials=(2, 4), place=(1, 2)), 2)
        self.assertEqual(self.told(turn_of, dials=(4, 6), place=(1, 1)), 12)

    def test_whole_is_nothing_unless_there_is_just_one_half(self):
        for sizes in all_dials(24):
            found = self.told(halves, dials=sizes)
            self.assertEqual(found, own_halves(sizes))
            self.assertEqual(found, [x for x in own_places(sizes) if turn_of(sizes, x) == 2])
            self.assertEqual(self.told(whole, dials=sizes), total(sizes, own_places(sizes)))
            self.assertEqual(whole(sizes), found[0] if len(found) == 1 else nothing(sizes))

    def test_places_that_are_none(self):
        for place in ((4,), (-1,), (True,), (False,), [0], 0, (), (0, 0), ("0",), None, ((0,),)):
            self.refused(errors.BadPlace, plus, dials=(4,), one=place, other=(0,))
            self.refused(errors.BadPlace, plus, dials=(4,), one=(0,), other=place)
            self.refused(errors.BadPlace, less, dials=(4,), one=place, other=(0,))
            self.refused(errors.BadPlace, less, dials=(4,), one=(0,), other=place)
            self.refused(errors.BadPlace, turn_of, dials=(4,), place=place)
            self.refused(errors.BadPlace, times, dials=(4,), place=place, number="x")
