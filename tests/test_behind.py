"""Promise 32: dealings one behind another, turned back, shifted and renamed; rounds and swaps."""

import itertools
import random

from movedround import errors
from movedround.balances import is_even
from movedround.behind import behind, renamed, rounds, sent_on, shifted, still, swaps, undone
from movedround.shifts import renaming
from tests.support import Case, all_dials, anything, dealings_by_row, drawn_dealing, fewest, good_dealing, good_renaming
from tests.support import near_misses, nothing, own_ends, own_minus, own_places, own_plus, own_total

D4 = (4,)
DEALT = ((1,), (1,), (2,), (0,))


def goals_of(sizes, moves):
    return dict(zip(own_places(sizes), own_ends(sizes, moves)))


def some_dealings(draw, sizes):
    """All dealings of few places, and some of many."""
    if len(own_places(sizes)) <= 4:
        return [moves for some in dealings_by_row(sizes).values() for moves in some]
    return [drawn_dealing(draw, sizes) for _ in range(3)]


class Behind(Case):

    def test_still(self):
        for sizes in all_dials(24):
            found = self.told(still, dials=sizes)
            self.assertEqual(found, (nothing(sizes),) * len(own_places(sizes)))

    def test_behind_brings_from_end_to_end(self):
        draw = random.Random(50)
        for sizes in all_dials(24):
            for one, other in itertools.product(some_dealings(draw, sizes), repeat=2):
                found = behind(sizes, one, other)
                first, second = goals_of(sizes, one), goals_of(sizes, other)
                self.assertEqual(goals_of(sizes, found), {person: second[first[person]] for person in first})
                self.assertEqual(is_even(sizes, found), is_even(sizes, one) == is_even(sizes, other))
        self.assertEqual(self.told(behind, dials=D4, first=DEALT, second=DEALT), ((2,), (3,), (3,), (0,)))

    def test_three_behind_one_another_from_either_side(self):
        draw = random.Random(51)
        for sizes in all_dials(24):
            for _ in range(3):
                one, two, three = [drawn_dealing(draw, sizes) for _ in range(3)]
                left = self.told(behind, dials=sizes, first=behind(sizes, one, two), second=three)
                self.assertEqual(left, behind(sizes, one, behind(sizes, two, three)))
                self.assertEqual(behind(sizes, one, still(sizes)), one)
                self.assertEqual(behind(sizes, still(sizes), one), one)

    def test_undone(self):
        draw = random.Random(52)
        for sizes in all_dials(24):
            for moves in some_dealings(draw, sizes):
                back = self.told(undone, dials=sizes, dealing=moves)
                self.assertEqual(behind(sizes, moves, back), still(sizes))
                self.assertEqual(behind(sizes, back, moves), still(sizes))
                self.assertEqual(sorted(back), sorted(own_minus(sizes, nothing(sizes), move) for move in moves))
                self.assertEqual(is_even(sizes, back), is_even(sizes, moves))
                self.assertEqual(undone(sizes, back), moves)

    def test_shifted_and_sent_on(self):
        draw = random.Random(53)
        for sizes in all_dials(24):
            places = own_places(sizes)
            for moves in some_dealings(draw, sizes):
                own = dict(zip(places, moves))
                for place in draw.sample(places, 2):
                    found = self.told(shifted, dials=sizes, dealing=moves, place=place)
                    self.assertEqual(found, tuple(own[own_plus(sizes, person, place)] for person in places))
                    self.assertTrue(good_dealing(sizes, found))
                    self.assertEqual(sorted(found), sorted(moves))
                    self.assertEqual(is_even(sizes, found), is_even(sizes, moves))
                    sent = self.told(sent_on, dials=sizes, dealing=moves, place=place)
                    self.assertEqual(sent, tuple(own_plus(sizes, move, place) for move in moves))
                    self.assertTrue(good_dealing(sizes, sent))
        self.assertEqual(self.told(shifted, dials=D4, dealing=DEALT, place=(1,)), ((1,), (2,), (0,), (1,)))
        self.assertEqual(self.told(sent_on, dials=D4, dealing=DEALT, place=(1,)), ((2,), (2,), (3,), (1,)))


class Renamed(Case):

    def test_the_name_of_each_person_has_the_name_of_their_move(self):
        draw = random.Random(54)
        for one, other in itertools.product(all_dials(24), repeat=2):
            names = renaming(one, other) if len(own_places(one)) == len(own_places(other)) else None
            if names is None:
                continue
            moves = drawn_dealing(draw, one)
            found = self.told(renamed, dials=one, other=other, names=names, dealing=moves)
            self.assertTrue(good_dealing(other, found))
            name_of = dict(names)
            own, new = dict(zip(own_places(one), moves)), dict(zip(own_places(other), found))
            self.assertEqual(new, {name_of[person]: name_of[own[person]] for person in own})
            self.assertEqual(is_even(other, found), is_even(one, moves))
            self.assertEqual(renamed(one, other, tuple(names), moves), found)

    def test_other_names_give_another_dealing(self):
        turned = [((at,), (-at % 5,)) for at in range(5)]
        moves = ((0,), (1,), (2,), (3,), (4,))
        self.assertEqual(self.told(renamed, dials=(5,), other=(5,), names=turned, dealing=moves), moves)
        swapped = [((0, 0), (0, 0)), ((0, 1), (1, 0)), ((1, 0), (0, 1)), ((1, 1), (1, 1))]
        moves = ((0, 0), (1, 0), (1, 1), (0, 1))
        found = self.told(renamed, dials=(2, 2), other=(2, 2), names=swapped, dealing=moves)
        self.assertEqual(found, ((0, 0), (1, 1), (0, 1), (1, 0)))

    def test_what_is_no_renaming(self):
        by_both = [((at,), (at % 2, at % 3)) for at in range(6)]
        moves = ((0,),) * 6
        for names in anything() + list(near_misses(by_both)):
            if not good_renaming((6,), (2, 3), names):
                self.refused(errors.BadNames, renamed, dials=(6,), other=(2, 3), names=names, dealing=moves)
        self.refused(errors.BadNames, renamed, dials=(4,), other=(2, 2), names=by_both, dealing=None)
        self.refused(errors.BadDials, renamed, dials=(6,), other=(1, 6), names=None, dealing=None)
        self.refused(errors.BadDials, renamed, dials=(0,), other=(1, 6), names=None, dealing=None)
        self.refused(errors.BadDealing, renamed, dials=(6,), other=(2, 3), names=by_both, dealing=((0, 0),) * 6)


class Rounds(Case):

    def test_example_by_hand(self):
        self.assertEqual(own_ends(D4, DEALT), [(1,), (2,), (0,), (3,)])
        self.assertEqual(self.told(rounds, dials=D4, dealing=DEALT), [[(0,), (1,), (2,)], [(3,)]])
        found = self.told(swaps, dials=D4, dealing=DEALT)
        self.assertEqual(len(found), 2)
        self.carry_out(D4, DEALT, found)

    def carry_out(self, sizes, moves, pairs):
        stands = {place: place for place in own_places(sizes)}
        for pair in pairs:
            self.assertIs(type(pair), tuple)
            one, other = pair
            self.assertLess(one, other)
            stands[one], stands[other] = stands[other], stands[one]
        goals = goals_of(sizes, moves)
        self.assertTrue(all(goals[person] == place for place, person in stands.items()))

    def look_at(self, sizes, moves):
        found = self.told(rounds, dials=sizes, dealing=moves)
        goals = goals_of(sizes, moves)
        self.assertEqual(sorted(itertools.chain(*found)), own_places(sizes))
        self.assertEqual(found, sorted(found))
        own = dict(zip(own_places(sizes), moves))
        for one_round in found:
            self.assertEqual(one_round[0], min(one_round))
            self.assertEqual([goals[person] for person in one_round], one_round[1:] + one_round[:1])
            self.assertEqual(own_total(sizes, [own[person] for person in one_round]), nothing(sizes))
        pairs = self.told(swaps, dials=sizes, dealing=moves)
        self.carry_out(sizes, moves, pairs)
        self.assertEqual(len(pairs), len(moves) - len(found))
        self.assertEqual(is_even(sizes, moves), len(pairs) % 2 == 0)

    def test_all_dealings_of_few_places_and_some_of_many(self):
        draw = random.Random(55)
        for sizes in all_dials(24):
            for moves in some_dealings(draw, sizes):
                self.look_at(sizes, moves)
            self.look_at(sizes, still(sizes))

    def test_no_fewer_swaps_would_do(self):
        for sizes in ((2,), (3,), (4,), (2, 2), (5,)):
            places = own_places(sizes)

            def after_one(stand):
                for one, other in itertools.combinations(range(len(stand)), 2):
                    changed = list(stand)
                    changed[one], changed[other] = stand[other], stand[one]
                    yield tuple(changed)

            least = fewest([tuple(places)], after_one)
            for stand, many in least.items():
                goals = dict(zip(stand, places))
                moves = tuple(own_minus(sizes, goals[person], person) for person in places)
                self.assertEqual(len(swaps(sizes, moves)), many)
