"""Promise 31: even and odd dealings, and how they balance."""

import random

from movedround.balances import balance, is_even
from movedround.dials import turn_of
from movedround.manydealings import arrangements
from tests.support import Case, all_dials, all_rows, dealings_by_row, dealings_of, drawn_dealing, is_even_order
from tests.support import nothing, own_ends, own_minus, own_places, own_plus, own_total

FEW = [(2,), (3,), (4,), (2, 2), (5,), (6,), (2, 3)]


def own_balance(sizes, row):
    return sum(1 if is_even_order(own_ends(sizes, moves)) else -1 for moves in dealings_of(sizes, row))


class Balances(Case):

    def test_example_by_hand(self):
        row = ((0,), (1,), (2,))
        for moves in (row, ((1,), (2,), (0,)), ((2,), (0,), (1,))):
            self.assertIs(self.told(is_even, dials=(3,), dealing=moves), False)
        self.assertEqual(self.told(balance, dials=(3,), row=row), -3)
        self.assertEqual(balance((3,), row) - arrangements((3,), row), -9)

    def test_is_even(self):
        for sizes in ((2,), (3,), (4,), (2, 2)):
            for some in dealings_by_row(sizes).values():
                for moves in some:
                    even = is_even_order(own_ends(sizes, moves))
                    self.assertIs(self.told(is_even, dials=sizes, dealing=moves), even)
        draw = random.Random(40)
        for sizes in all_dials(24):
            moves = drawn_dealing(draw, sizes)
            self.assertIs(self.told(is_even, dials=sizes, dealing=moves), is_even_order(own_ends(sizes, moves)))
            self.assertIs(self.told(is_even, dials=sizes, dealing=(nothing(sizes),) * len(moves)), True)

    def test_balance_against_all_dealings(self):
        for sizes in FEW:
            for row in all_rows(sizes):
                self.assertEqual(self.told(balance, dials=sizes, row=row), own_balance(sizes, row))

    def test_for_an_odd_prime_they_never_make_up_for_each_other(self):
        for size in (3, 5, 7):
            for row in all_rows((size,)):
                if own_total((size,), row) == (0,):
                    told = balance((size,), row)
                    self.assertNotEqual(told, 0)
                    self.assertEqual((told - arrangements((size,), row)) % (size * size), 0)
                elif size < 7:
                    self.assertEqual(balance((size,), row), 0)

    def test_turned_back_and_added_to(self):
        for sizes in FEW:
            n = len(own_places(sizes))
            for row in dealings_by_row(sizes):
                told = balance(sizes, row)
                back = tuple(sorted(own_minus(sizes, nothing(sizes), move) for move in row))
                self.assertEqual(balance(sizes, back), told)
                for place in own_places(sizes):
                    more = tuple(sorted(own_plus(sizes, move, place) for move in row))
                    turn = turn_of(sizes, place)
                    turns_over = turn % 2 == 0 and n // turn % 2 == 1
                    self.assertEqual(balance(sizes, more), -told if turns_over else told)

    def test_ten_places_and_more(self):
        draw = random.Random(41)
        for sizes in ((9,), (10,), (2, 5), (3, 3)):
            moves = drawn_dealing(draw, sizes)
            row = tuple(sorted(moves))
            self.assertLessEqual(abs(self.told(balance, dials=sizes, row=row)), arrangements(sizes, row))
        self.assertEqual(self.told(balance, dials=(10,), row=((0,),) * 10), 1)
        self.assertEqual(self.told(balance, dials=(10,), row=((1,),) * 10), -1)
        self.too_many(10, balance, dials=(11,), row=((0,),) * 11)
        for size in (2, 4, 6):
            self.assertEqual(self.told(balance, dials=(size,), row=((1,),) * size), -1)
