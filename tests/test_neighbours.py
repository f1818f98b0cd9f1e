"""Promise 57: who stands side by side, in squares and at tables."""

import itertools
import random

from movedround import errors
from movedround.fairtours import fair_tour, is_fair
from movedround.neighbours import are_tables, is_neighbourly, neighbourly, side_by_side, stacked, sums, tables
from movedround.roundwalks import round_walk
from movedround.walks import is_walk
from tests.judges import good_neighbourly, good_square, good_tables, one_half, own_beside, own_round_walks, own_steps
from tests.judges import own_walks
from tests.support import Case, all_dials, anything, near_misses, own_minus, own_places, own_plus
from tests.test_swings import some_walks

ORDER4 = ((0,), (1,), (3,), (2,))
SQUARE4 = tuple(tuple((int(at),) for at in line) for line in ("0132", "1203", "3021", "2310"))
TABLES3 = [((0,), (1,)), ((1,), (2,)), ((2,), (0,))]


def drawn_order(draw, sizes):
    return tuple(draw.sample(own_places(sizes), len(own_places(sizes))))


def drawn_square(draw, sizes):
    """A square that is not just sums: lines and columns in any order, and other names for the places."""
    lines, columns, names = [drawn_order(draw, sizes) for _ in range(3)]
    name_of = dict(zip(own_places(sizes), names))
    return tuple(tuple(name_of[own_plus(sizes, x, y)] for y in columns) for x in lines)


def less_first(sizes, order):
    return tuple(own_minus(sizes, place, order[0]) for place in order)


class Squares(Case):

    def test_example_by_hand(self):
        found = self.told(sums, dials=(4,), lines=ORDER4, columns=ORDER4)
        self.assertEqual(found, SQUARE4)
        pairs = "01 13 32 12 20 03 30 02 21 23 31 10".split()
        own = {((int(x),), (int(y),)): 1 for x, y in sorted(pairs)}
        self.assertEqual(self.told(side_by_side, dials=(4,), square=SQUARE4), own)
        self.assertEqual(self.told(stacked, dials=(4,), square=SQUARE4), own)
        self.assertIs(self.told(is_neighbourly, dials=(4,), thing=SQUARE4), True)

    def test_sums(self):
        draw = random.Random(370)
        for sizes in all_dials(24):
            lines, columns = drawn_order(draw, sizes), drawn_order(draw, sizes)
            found = self.told(sums, dials=sizes, lines=lines, columns=columns)
            self.assertTrue(good_square(sizes, found))
            for i, line in enumerate(lines):
                self.assertEqual(found[i], tuple(own_plus(sizes, line, column) for column in columns))

    def test_side_by_side_and_stacked(self):
        draw = random.Random(371)
        for sizes in all_dials(24):
            for square in (drawn_square(draw, sizes), sums(sizes, drawn_order(draw, sizes), drawn_order(draw, sizes))):
                found = self.told(side_by_side, dials=sizes, square=square)
                self.assertEqual(found, dict(own_beside(square)))
                self.assertEqual(list(found), sorted(found))
                found = self.told(stacked, dials=sizes, square=square)
                self.assertEqual(found, dict(own_beside(zip(*square))))
                self.assertEqual(list(found), sorted(found))

    def test_sums_stand_side_by_side_by_their_steps(self):
        draw = random.Random(372)
        for sizes in all_dials(24):
            lines, columns = drawn_order(draw, sizes), drawn_order(draw, sizes)
            square = sums(sizes, lines, columns)
            for function, order in ((side_by_side, columns), (stacked, lines)):
                found = function(sizes, square)
                steps = own_steps(sizes, order)
                for x, y in itertools.permutations(own_places(sizes), 2):
                    self.assertEqual(found.get((x, y), 0), steps.count(own_minus(sizes, y, x)))

    def test_neighbourly_exactly_if_both_are_walks(self):
        draw = random.Random(373)
        seen = set()
        for sizes in all_dials(12):
            orders = [drawn_order(draw, sizes)] + some_walks(draw, sizes)[:2]
            orders += [tuple(own_plus(sizes, place, own_places(sizes)[-1]) for place in order) for order in orders]
            for lines, columns in itertools.product(orders, repeat=2):
                told = self.told(is_neighbourly, dials=sizes, thing=sums(sizes, lines, columns))
                self.assertIs(told, is_walk(sizes, less_first(sizes, lines)) and
                              is_walk(sizes, less_first(sizes, columns)))
                seen.add(told)
        self.assertEqual(seen, {True, False})

    def test_by_a_fair_tour_twice_altogether(self):
        for sizes in all_dials(24):
            if one_half(sizes) or len(own_places(sizes)) % 2 == 1 or sizes in ((2, 4), (2, 6), (3, 2, 2)):
                tour = fair_tour(sizes)
                self.assertIs(is_fair(sizes, tour), True)
                found = side_by_side(sizes, sums(sizes, drawn_order(random.Random(374), sizes), tour))
                for x, y in itertools.combinations(own_places(sizes), 2):
                    self.assertEqual(found.get((x, y), 0) + found.get((y, x), 0), 2)

    def test_neighbourly(self):
        for sizes in all_dials(24):
            if not one_half(sizes):
                self.refused(errors.NotOneHalf, neighbourly, dials=sizes)
                continue
            found = self.told(neighbourly, dials=sizes)
            self.assertTrue(good_neighbourly(sizes, found))
            self.assertIs(self.told(is_neighbourly, dials=sizes, thing=found), True)

    def test_any_value_is_judged_as_described(self):
        for sizes, valid in (((4,), SQUARE4), ((2,), (((0,), (1,)), ((1,), (0,))))):
            for thing in anything() + list(near_misses(valid)):
                told = self.told(is_neighbourly, dials=sizes, thing=thing)
                self.assertIs(told, good_neighbourly(sizes, thing), thing)
                if not good_square(sizes, thing):
                    self.refused(errors.BadSquare, side_by_side, dials=sizes, square=thing)
                    self.refused(errors.BadSquare, stacked, dials=sizes, square=thing)
        draw = random.Random(375)
        for sizes in ((3,), (2, 2), (4,), (2, 3)):
            for _ in range(10):
                square = drawn_square(draw, sizes)
                self.assertIs(is_neighbourly(sizes, square), good_neighbourly(sizes, square))
        # Only the columns, or only the lines, have each two places side by side once.
        for lines, columns in ((ORDER4, tuple(own_places((4,)))), (tuple(own_places((4,))), ORDER4)):
            self.assertIs(self.told(is_neighbourly, dials=(4,), thing=sums((4,), lines, columns)), False)

    def test_what_is_no_square(self):
        for square in (None, list(SQUARE4), SQUARE4[:3], SQUARE4 + SQUARE4[:1], (SQUARE4[0],) * 4, (), 0, {},
                       tuple(list(line) for line in SQUARE4), SQUARE4[:3] + (((2,), (2,), (1,), (0,)),),
                       (((0,), (1,), (2,), (3,)),) + SQUARE4[1:], SQUARE4[:3] + (((2,), (3,), (True,), (0,)),),
                       (((0,),) * 4,) * 4, (((0,), (0,), (1,), (2,)),) + SQUARE4[1:], SQUARE4[:3] + (SQUARE4[3][:3],)):
            self.assertFalse(good_square((4,), square))
            self.refused(errors.BadSquare, side_by_side, dials=(4,), square=square)
            self.refused(errors.BadSquare, stacked, dials=(4,), square=square)
            self.assertIs(self.told(is_neighbourly, dials=(4,), thing=square), False)

    def test_what_are_no_orders(self):
        for order in (None, list(ORDER4), ORDER4[:3], ORDER4 + ORDER4[:1], ((0,), (1,), (3,), (3,)), (), 0, {},
                      ((0,), (True,), (3,), (2,)), ((0,), (1,), (3,), (4,))):
            self.refused(errors.BadLines, sums, dials=(4,), lines=order, columns=ORDER4)
            self.refused(errors.BadLines, sums, dials=(4,), lines=order, columns=None)
            self.refused(errors.BadColumns, sums, dials=(4,), lines=ORDER4, columns=order)
        self.told(sums, dials=(4,), lines=ORDER4[::-1], columns=ORDER4[1:] + ORDER4[:1])


class Tables(Case):

    def test_example_by_hand(self):
        self.assertEqual(self.told(tables, dials=(3,), walk=((0,), (1,))), TABLES3)
        self.assertIs(self.told(are_tables, dials=(3,), thing=TABLES3), True)

    def test_tables_person_by_person(self):
        for sizes in all_dials(24):
            some = own_round_walks(sizes)[:20] if len(own_places(sizes)) <= 8 else [round_walk(sizes)]
            for route in some:
                if route is None:
                    continue
                found = self.told(tables, dials=sizes, walk=route)
                own = [tuple(own_plus(sizes, place, more) for place in route) for more in own_places(sizes)]
                self.assertEqual(found, own)
                self.assertTrue(good_tables(sizes, found))
                self.assertIs(self.told(are_tables, dials=sizes, thing=found), True)
                missing = [(set(own_places(sizes)) - set(each)).pop() for each in found]
                self.assertEqual(sorted(missing), own_places(sizes))

    def test_any_value_is_judged_as_described(self):
        for sizes, valid in (((3,), TABLES3), ((5,), tables((5,), round_walk((5,)))), ((2, 2), tables(
                (2, 2), round_walk((2, 2))))):
            for thing in anything() + list(near_misses(valid)) + [tuple(valid), valid[::-1]]:
                self.assertIs(self.told(are_tables, dials=sizes, thing=thing), good_tables(sizes, thing), thing)
            turned = [each[1:] + each[:1] for each in valid]
            self.assertIs(self.told(are_tables, dials=sizes, thing=turned), True)
        for sizes in ((2,), (4,), (6,)):
            for thing in anything() + [[((0,),), ((1,),)], [((0,),), ((0,),)]]:
                self.assertIs(self.told(are_tables, dials=sizes, thing=thing), False)

    def test_seats_exchanged(self):
        draw = random.Random(376)
        valid = tables((7,), round_walk((7,)))
        for _ in range(60):
            thing = [list(each) for each in valid]
            table = draw.choice(thing)
            one, other = draw.sample(range(6), 2)
            table[one], table[other] = table[other], table[one]
            thing = [tuple(each) for each in thing]
            self.assertIs(are_tables((7,), thing), good_tables((7,), thing))
            self.assertIs(are_tables((7,), thing), False)

    def test_tables_of_all_persons_of_4(self):
        """Any tuples of three of four persons: those that are tables, by trying many."""
        draw = random.Random(377)
        seats = list(itertools.permutations(own_places((4,)), 3))
        seen = set()
        for _ in range(3000):
            thing = [draw.choice(seats) for _ in range(4)]
            told = are_tables((4,), thing)
            self.assertIs(told, good_tables((4,), thing))
            seen.add(told)
        self.assertEqual(seen, {True, False})

    def test_all_side_by_side_once_but_one_sits_twice_at_a_table(self):
        thing = [tuple((at % 5,) for at in (x, x + 1, x, x + 2)) for x in range(5)]
        often = own_beside([each + each[:1] for each in thing])
        self.assertTrue(all(often[pair] == 1 for pair in itertools.permutations(own_places((5,)), 2)))
        self.assertIs(self.told(are_tables, dials=(5,), thing=thing), False)

    def test_wrong_arguments(self):
        for route in (None, [(0,), (1,)], ((0,), (1,), (2,)), ((1,), (2,)), ((0,), (True,)), ((0,), (0,)), (), 0):
            self.refused(errors.BadRoundWalk, tables, dials=(3,), walk=route)
        for route in own_walks((4,)):
            self.refused(errors.BadRoundWalk, tables, dials=(4,), walk=route)
