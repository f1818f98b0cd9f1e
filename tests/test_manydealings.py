"""Promise 30: dealings counted and listed."""

import collections
import itertools
import math
import random

from movedround import errors
from movedround.dials import turn_of
from movedround.manydealings import all_dealings, arrangements, beginning_many, dealing_at, dealings_many, index_of
from movedround.manydealings import rows_many
from tests.support import MANY9, MANY10, ROW_300, ROW_306, Case, all_dials, all_rows, dealings_by_row
from tests.support import dealings_of, drawn_dealing, drawn_row, good_dealing, nothing, own_places, own_total

ROW3 = ((0,), (1,), (2,))
FEW = [(2,), (3,), (4,), (2, 2), (5,), (6,), (3, 2)]


class Counted(Case):

    def test_example_by_hand(self):
        self.assertEqual(self.told(arrangements, dials=(3,), row=ROW3), 6)
        self.assertEqual(self.told(dealings_many, dials=(3,), row=ROW3), 3)
        listed = [((0,), (1,), (2,)), ((1,), (2,), (0,)), ((2,), (0,), (1,))]
        self.assertEqual(self.told(all_dealings, dials=(3,), row=ROW3), listed)
        self.assertEqual(self.told(rows_many, dials=(3,), place=(0,)), 4)
        have = [row for row in all_rows((3,)) if dealings_many((3,), row)]
        self.assertEqual(have, [((0,),) * 3, ROW3, ((1,),) * 3, ((2,),) * 3])

    def test_arrangements_by_trying(self):
        for sizes in [(2,), (3,), (4,), (2, 2), (5,)]:
            for row in all_rows(sizes):
                many = len(set(itertools.permutations(row)))
                self.assertEqual(self.told(arrangements, dials=sizes, row=row), many)
        draw = random.Random(30)
        for sizes in all_dials(24):
            row = drawn_row(draw, sizes)
            many = math.factorial(len(row))
            for often in collections.Counter(row).values():
                many //= math.factorial(often)
            self.assertEqual(self.told(arrangements, dials=sizes, row=row), many)
        self.assertEqual(arrangements((24,), tuple(own_places((24,)))), math.factorial(24))

    def test_dealings_many_by_trying(self):
        for sizes in FEW:
            rows = all_rows(sizes)
            found = {row: self.told(dealings_many, dials=sizes, row=row) for row in rows}
            self.assertEqual(found, {row: len(dealings_of(sizes, row)) for row in rows})
            self.assertEqual(sum(found.values()), math.factorial(len(own_places(sizes))))
            for row in rows:
                self.assertEqual(found[row] == 0, own_total(sizes, row) != nothing(sizes))
        for sizes in ((7,), (8,), (2, 2, 2), (2, 4)):
            for row, some in list(dealings_by_row(sizes).items())[::9]:
                self.assertEqual(dealings_many(sizes, row), len(some))

    def test_for_a_prime_they_are_a_multiple(self):
        for size in (2, 3, 5, 7):
            for row, some in dealings_by_row((size,)).items():
                many = dealings_many((size,), row)
                self.assertEqual(many, len(some))
                self.assertEqual(many % size, 1 % size if len(set(row)) == 1 else 0)
                if len(set(row)) == 1:
                    self.assertEqual(many, 1)

    def test_beginnings(self):
        for sizes in [(2,), (3,), (4,), (2, 2), (5,)]:
            for row in all_rows(sizes):
                some = dealings_of(sizes, row)
                begins = {moves[:many] for moves in some for many in range(len(row) + 1)} | {(), row[:2], row[::-1][:2]}
                for begin in begins:
                    many = len([moves for moves in some if moves[:len(begin)] == begin])
                    self.assertEqual(self.told(beginning_many, dials=sizes, row=row, begin=begin), many)
        self.assertEqual(self.told(beginning_many, dials=(3,), row=ROW3, begin=()), 3)
        self.assertEqual(self.told(beginning_many, dials=(3,), row=ROW3, begin=((1,), (2,), (0,))), 1)
        self.assertEqual(self.told(beginning_many, dials=(3,), row=ROW3, begin=((1,), (0,), (2,))), 0)
        self.assertEqual(self.told(beginning_many, dials=(3,), row=ROW3, begin=((0,), (0,))), 0)
        self.assertEqual(self.told(beginning_many, dials=(3,), row=((0,),) * 3, begin=((1,),)), 0)
        for begin in (((0,),) * 4, [(0,)], [], ((3,),), ((True,),), (0,), None, {}, ((0,), None)):
            self.refused(errors.BadBegin, beginning_many, dials=(3,), row=ROW3, begin=begin)
        for begin in (((0,),) * 12, [(0,)], ((11,),), ((True,),), None):
            self.refused(errors.BadBegin, beginning_many, dials=(11,), row=((0,),) * 11, begin=begin)

    def test_rows_many_against_a_count_of_all_rows(self):
        for sizes in all_dials(7):
            totals = collections.Counter(own_total(sizes, row) for row in all_rows(sizes))
            for place in own_places(sizes):
                self.assertEqual(self.told(rows_many, dials=sizes, place=place), totals[place])

    def test_rows_many_of_all_dials(self):
        for sizes in all_dials(24):
            places = own_places(sizes)
            n = len(places)
            found = {place: self.told(rows_many, dials=sizes, place=place) for place in places}
            several = [n // turn_of(sizes, place) for place in places]
            self.assertEqual(n * found[nothing(sizes)], sum(math.comb(2 * m - 1, m) for m in several))
            self.assertEqual(max(found.values()), found[nothing(sizes)])
            self.assertEqual(sum(found.values()), math.comb(2 * n - 1, n))

    def test_too_many(self):
        for function, more in ((dealings_many, {}), (beginning_many, {"begin": ()}), (all_dealings, {}),
                               (dealing_at, {"index": 0})):
            for sizes in ((11,), (2, 6), (24,), (2, 2, 2, 3)):
                still = (nothing(sizes),) * len(own_places(sizes))
                self.too_many(10, function, dials=sizes, row=still, **more)
            self.told(function, dials=(10,), row=((1,),) * 10, **more)
        self.too_many(10, index_of, dials=(11,), dealing=((0,),) * 11)
        self.assertEqual(self.told(index_of, dials=(10,), dealing=((1,),) * 10), 0)


class Listed(Case):

    def test_list_index_and_back(self):
        for sizes in FEW:
            for row in all_rows(sizes):
                some = self.told(all_dealings, dials=sizes, row=row)
                self.assertEqual(some, dealings_of(sizes, row))
                for index, moves in enumerate(some):
                    self.assertEqual(dealing_at(sizes, row, index), moves)
                    self.assertEqual(index_of(sizes, moves), index)
                self.assertIsNone(self.told(dealing_at, dials=sizes, row=row, index=len(some)))

    def test_drawn_dealings_of_up_to_ten_places(self):
        draw = random.Random(31)
        for sizes in all_dials(10):
            moves = drawn_dealing(draw, sizes)
            index = self.told(index_of, dials=sizes, dealing=moves)
            row = tuple(sorted(moves))
            self.assertEqual(self.told(dealing_at, dials=sizes, row=row, index=index), moves)
            self.assertLess(index, dealings_many(sizes, row))

    def test_dealings_from_index_to_index_ascend(self):
        for sizes, row in (((10,), MANY10), ((9,), MANY9)):
            many = dealings_many(sizes, row)
            self.assertGreater(many, 300)
            some = [dealing_at(sizes, row, index) for index in [*range(0, many - 1, many // 9), many - 1]]
            self.assertEqual(some, sorted(some))
            self.assertTrue(all(good_dealing(sizes, moves) and tuple(sorted(moves)) == row for moves in some))
            self.assertEqual(index_of(sizes, some[-1]), many - 1)
            self.assertIsNone(self.told(dealing_at, dials=sizes, row=row, index=many))
            firsts = [beginning_many(sizes, row, (move,)) for move in sorted(set(row))]
            self.assertEqual(sum(firsts), many)
        self.assertEqual(dealings_many((9,), MANY9), 2025)

    def test_indexes(self):
        self.assertEqual(self.told(dealing_at, dials=(3,), row=ROW3, index=0), ROW3)
        self.assertEqual(self.told(dealing_at, dials=(3,), row=ROW3, index=2), ((2,), (0,), (1,)))
        for index in (3, 4, 999999999):
            self.assertIsNone(self.told(dealing_at, dials=(3,), row=ROW3, index=index))
        self.assertIsNone(self.told(dealing_at, dials=(3,), row=((0,), (0,), (1,)), index=0))
        for index in (-1, 1000000000, 10 ** 30, True, False, None, "0", (0,), [0]):
            self.refused(errors.BadIndex, dealing_at, dials=(3,), row=ROW3, index=index)
            self.refused(errors.BadIndex, dealing_at, dials=(11,), row=((0,),) * 11, index=index)

    def test_at_most_300_are_listed(self):
        listed = self.told(all_dealings, dials=(10,), row=ROW_300)
        self.assertEqual(len(listed), 300)
        self.assertEqual(listed, sorted(set(listed)))
        self.assertTrue(all(good_dealing((10,), moves) and tuple(sorted(moves)) == ROW_300 for moves in listed))
        self.assertEqual(self.told(dealings_many, dials=(9,), row=ROW_306), 306)
        self.too_many(300, all_dealings, dials=(9,), row=ROW_306)
        self.too_many(300, all_dealings, dials=(10,), row=MANY10)
        self.too_many(300, all_dealings, dials=(9,), row=MANY9)
        by_many = {len(some): row for row, some in dealings_by_row((2, 2, 2)).items()}
        fits = [many for many in by_many if many <= 300]
        beyond = [many for many in by_many if many > 300]
        self.assertTrue(fits and beyond)
        for many in fits:
            self.assertEqual(len(self.told(all_dealings, dials=(2, 2, 2), row=by_many[many])), many)
        for many in beyond:
            self.too_many(300, all_dealings, dials=(2, 2, 2), row=by_many[many])
        many = {len(some) for some in dealings_by_row((8,)).values()}
        self.assertLessEqual(max(many), 300)
