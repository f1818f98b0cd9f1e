"""Promise 42: triples, sides, dealings beside one another, and what is alike."""

import itertools
import math
import random

from movedround import errors
from movedround.behind import renamed, sent_on, shifted, undone
from movedround.shifts import renaming
from movedround.sides import are_alike, beside, kinds, likes, side, triples
from movedround.unlike import unlike
from tests.support import Case, all_dials, fewest, good_unlike, nothing, own_places, own_plus, own_unlike

ORDERS = list(itertools.permutations(range(3)))
FIVE = ((0,), (1,), (2,), (3,), (4,))
WITH_UNLIKE = [sizes for sizes in all_dials(24) if unlike(sizes) is not None]


def some_unlike(draw, sizes):
    """Unlike dealings: all of few places, some of many."""
    if math.prod(sizes) <= 5:
        return own_unlike(sizes)
    if math.prod(sizes) <= 8:
        return draw.sample(own_unlike(sizes), 6)
    return [shifted(sizes, unlike(sizes), draw.choice(own_places(sizes))) for _ in range(2)]


def own_likes(sizes, moves):
    """What is alike, by one step after another, until nothing new comes."""
    def steps_of(here):
        places = own_places(sizes)
        return ([side(sizes, here, order) for order in ORDERS] + [shifted(sizes, here, place) for place in places]
                + [sent_on(sizes, here, place) for place in places])
    return sorted(fewest([moves], steps_of))


class Sides(Case):

    def test_example_by_hand(self):
        own = [(0, 0, 0), (1, 1, 3), (2, 2, 1), (3, 3, 4), (4, 4, 2)]
        found = self.told(triples, dials=(5,), dealing=FIVE)
        self.assertEqual(found, [tuple((at,) for at in triple) for triple in own])
        self.assertEqual(self.told(side, dials=(5,), dealing=FIVE, order=(0, 2, 1)), ((0,), (3,), (1,), (4,), (2,)))

    def test_triples_add_up_to_nothing(self):
        draw = random.Random(100)
        for sizes in WITH_UNLIKE:
            for moves in some_unlike(draw, sizes):
                found = self.told(triples, dials=sizes, dealing=moves)
                self.assertEqual([triple[:2] for triple in found], list(zip(own_places(sizes), moves)))
                self.assertTrue(all(own_plus(sizes, *triple) == nothing(sizes) for triple in found))
                self.assertEqual(found, sorted(found))

    def test_six_sides(self):
        draw = random.Random(101)
        for sizes in WITH_UNLIKE:
            for moves in some_unlike(draw, sizes):
                own = triples(sizes, moves)
                for order in ORDERS:
                    found = self.told(side, dials=sizes, dealing=moves, order=order)
                    self.assertTrue(good_unlike(sizes, found))
                    turned = sorted(tuple(triple[at] for at in order) for triple in own)
                    self.assertEqual(triples(sizes, found), turned)

    def test_the_side_of_a_side(self):
        draw = random.Random(102)
        for sizes in ((3,), (2, 2), (5,), (7,), (2, 4), (9,), (2, 2, 3)):
            for moves in some_unlike(draw, sizes)[:4]:
                for order, second in itertools.product(ORDERS, repeat=2):
                    found = side(sizes, side(sizes, moves, order), second)
                    self.assertEqual(found, side(sizes, moves, tuple(order[at] for at in second)))
                self.assertEqual(side(sizes, moves, (0, 1, 2)), moves)

    def test_what_keeps_unlike(self):
        draw = random.Random(103)
        for sizes in WITH_UNLIKE:
            for moves in some_unlike(draw, sizes)[:3]:
                for place in draw.sample(own_places(sizes), 2):
                    self.assertTrue(good_unlike(sizes, shifted(sizes, moves, place)))
                    self.assertTrue(good_unlike(sizes, sent_on(sizes, moves, place)))
                self.assertTrue(good_unlike(sizes, undone(sizes, moves)))
                other = tuple(reversed(sizes))
                self.assertTrue(good_unlike(other, renamed(sizes, other, renaming(sizes, other), moves)))

    def test_orders_that_are_none(self):
        for order in ((0, 1), (0, 1, 2, 0), (0, 1, 1), (0, 1, 3), (-1, 0, 1), [0, 1, 2], (False, True, 2), (0, True, 2),
                      ("0", "1", "2"), None, 0, "012", {0: 0, 1: 1, 2: 2}, ((0,), (1,), (2,)), (0, 1, None)):
            self.refused(errors.BadOrder, side, dials=(5,), dealing=FIVE, order=order)

    def test_dealings_that_are_not_unlike(self):
        for moves in (((0,),) * 5, ((1,), (1,), (2,), (0,), (1,)), list(FIVE), FIVE[:4], None, FIVE[:4] + ((True,),)):
            self.refused(errors.BadUnlike, triples, dials=(5,), dealing=moves)
            self.refused(errors.BadUnlike, side, dials=(5,), dealing=moves, order=None)
            self.refused(errors.BadUnlike, likes, dials=(5,), dealing=moves)
            self.refused(errors.BadUnlike, are_alike, dials=(5,), one=moves, other=FIVE)
            self.refused(errors.BadUnlike, are_alike, dials=(5,), one=FIVE, other=moves)


class Beside(Case):

    def test_the_two_move_side_by_side(self):
        draw = random.Random(104)
        for one, other in itertools.product(WITH_UNLIKE, repeat=2):
            if math.prod(one + other) <= 24 and len(one + other) <= 4:
                first, second = draw.choice(some_unlike(draw, one)), draw.choice(some_unlike(draw, other))
                found = self.told(beside, one=one, first=first, other=other, second=second)
                self.assertTrue(good_unlike(one + other, found))
                own = dict(zip(own_places(one + other), found))
                for x, move in zip(own_places(one), first):
                    for y, another in zip(own_places(other), second):
                        self.assertEqual(own[x + y], move + another)

    def test_errors(self):
        good = {"one": (3,), "first": ((0,), (1,), (2,)), "other": (5,), "second": FIVE}
        self.told(beside, **good)
        for other in ((9,), (2, 5), (11,), (2, 2, 2, 2), (1,), (), [5], (True,), None, 5, (3, 3)):
            self.refused(errors.BadDials, beside, **{**good, "other": other, "second": None})
        self.refused(errors.BadDials, beside, **{**good, "one": (1,), "first": None, "other": (9,)})
        self.refused(errors.BadUnlike, beside, **{**good, "first": ((0,),) * 3, "other": (9,)})
        self.refused(errors.BadUnlike, beside, **{**good, "second": ((0,),) * 5})
        self.refused(errors.BadUnlike, beside, **{**good, "second": good["first"]})
        four = {"one": (2, 2), "first": ((0, 0), (1, 0), (1, 1), (0, 1))}
        self.told(beside, **four, other=(5,), second=FIVE)
        self.refused(errors.BadDials, beside, **four, other=(7,), second=None)


class Alike(Case):

    def test_examples(self):
        self.assertEqual(len(own_unlike((5,))), 15)
        self.assertEqual(self.told(likes, dials=(5,), dealing=FIVE), own_unlike((5,)))
        self.assertEqual(self.told(kinds, dials=(5,)), own_unlike((5,))[:1])
        found = self.told(kinds, dials=(7,))
        self.assertEqual(sorted(len(likes((7,), moves)) for moves in found), [14, 21, 98])
        self.assertEqual(len(own_unlike((7,))), 133)

    def test_likes_by_one_step_after_another(self):
        draw = random.Random(105)
        for sizes in [sizes for sizes in WITH_UNLIKE if math.prod(sizes) <= 8]:
            for moves in draw.sample(own_unlike(sizes), min(3, len(own_unlike(sizes)))):
                found = self.told(likes, dials=sizes, dealing=moves)
                self.assertEqual(found, own_likes(sizes, moves))
                n = math.prod(sizes)
                self.assertEqual(len(found) % n, 0)
                self.assertEqual(6 * n * n % len(found), 0)
                for other in own_unlike(sizes)[::5] + [moves]:
                    told = self.told(are_alike, dials=sizes, one=moves, other=other)
                    self.assertIs(told, other in found)

    def test_likes_are_closed(self):
        draw = random.Random(106)
        for sizes in ((9,), (3, 3)):
            moves = draw.choice(own_unlike(sizes))
            found = self.told(likes, dials=sizes, dealing=moves)
            self.assertEqual(found, own_likes(sizes, moves))
            self.assertIn(moves, found)

    def test_kinds(self):
        for sizes in all_dials(8):
            found = self.told(kinds, dials=sizes)
            rest, own = own_unlike(sizes), []
            while rest:
                own.append(rest[0])
                met = set(likes(sizes, rest[0]))
                rest = [moves for moves in rest if moves not in met]
            self.assertEqual(found, own)
            self.assertEqual(sum(len(likes(sizes, moves)) for moves in found), len(own_unlike(sizes)))
            for one, other in itertools.combinations(found, 2):
                self.assertIs(are_alike(sizes, one, other), False)
        self.assertEqual(self.told(kinds, dials=(4,)), [])

    def test_are_alike_of_all_dials(self):
        draw = random.Random(107)
        for sizes in WITH_UNLIKE:
            moves = unlike(sizes)
            place, another = draw.choice(own_places(sizes)), draw.choice(own_places(sizes))
            other = sent_on(sizes, shifted(sizes, side(sizes, moves, draw.choice(ORDERS)), place), another)
            self.assertIs(self.told(are_alike, dials=sizes, one=moves, other=other), True)
            self.assertIs(are_alike(sizes, other, moves), True)

    def test_too_many(self):
        self.too_many(9, likes, dials=(11,), dealing=unlike((11,)))
        self.too_many(9, likes, dials=(2, 6), dealing=unlike((2, 6)))
        for sizes in ((9,), (3, 3), (10,), (24,)):
            self.too_many(8, kinds, dials=sizes)
        self.assertIs(self.told(are_alike, dials=(23,), one=unlike((23,)), other=unlike((23,))), True)
