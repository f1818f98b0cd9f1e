"""Promises 21 and 22: moves passed from hand to hand, exchanges, paths from row to row."""

import collections
import itertools
import random

from movedround import errors
from movedround.passing import exchanged, key_of, passing, row_path
from tests.support import Case, all_dials, all_rows, dealings_by_row, drawn_dealing, drawn_row, good_begun
from tests.support import good_dealing, nothing, own_minus, own_places, own_plus, own_total

D4 = (4,)
BEGUN = {(0,): (1,), (1,): (1,)}


def all_begun(sizes, most_free):
    """All begun dealings with two free persons or more, and at most so many."""
    places = own_places(sizes)
    for many in range(2, most_free + 1):
        for free in itertools.combinations(places, many):
            here = [person for person in places if person not in free]
            for goals in itertools.permutations(places, len(here)):
                yield {person: own_minus(sizes, goal, person) for person, goal in zip(here, goals)}


class Passings(Case):

    def look_at(self, sizes, begun, first, second, move):
        """One passing, told take by take, with all that is promised of it."""
        takes, behind = self.told(passing, dials=sizes, begun=begun, first=first, second=second, move=move)
        held, passed, waiting, taker = dict(begun), move, second, first
        for at, (person, taken) in enumerate(takes):
            self.assertEqual((person, taken), (taker, passed))
            goal = own_plus(sizes, person, taken)
            owners = [other for other in held if own_plus(sizes, other, held[other]) == goal]
            held[person] = taken
            self.assertEqual(len(owners), 0 if at == len(takes) - 1 else 1)
            if owners:
                passed = held.pop(owners[0])
                taker, waiting = waiting, owners[0]
        self.assertEqual(behind, held)
        self.assertTrue(good_begun(sizes, behind))
        takers = [person for person, _ in takes]
        self.assertEqual(len(takers), len(set(takers)))
        self.assertLessEqual(len(takes), len(begun) + 1)
        self.assertEqual(len(behind), len(begun) + 1)
        moves = collections.Counter(begun.values()) + collections.Counter([move])
        self.assertEqual(collections.Counter(behind.values()), moves)
        key = key_of(sizes, first, second, move)
        gave_up = {person for person in begun if (person, begun[person]) not in behind.items()}
        left = [person for person in {first, second} | gave_up if person not in behind]
        self.assertEqual(left, [waiting])
        for (person, taken), following in zip(takes, takers[1:] + left):
            self.assertEqual(own_plus(sizes, person, taken), own_minus(sizes, key, following))
        return set(takers)

    def test_example_by_hand(self):
        takes, behind = self.told(passing, dials=D4, begun=BEGUN, first=(3,), second=(2,), move=(2,))
        self.assertEqual(takes, [((3,), (2,)), ((2,), (1,))])
        self.assertEqual(list(behind.items()), [((1,), (1,)), ((2,), (1,)), ((3,), (2,))])
        self.assertEqual(self.told(key_of, dials=D4, first=(3,), second=(2,), move=(2,)), (3,))
        self.assertEqual(len({(0,), (1,), (2,), (3,)} - set(behind)), 1)

    def test_each_passing_of_small_dials_in_either_turn(self):
        for sizes in ((2,), (3,), (4,), (2, 2)):
            for begun in all_begun(sizes, len(own_places(sizes))):
                free = [person for person in own_places(sizes) if person not in begun]
                for first, second in itertools.combinations(free, 2):
                    for move in own_places(sizes):
                        self.look_at_both(sizes, begun, first, second, move)

    def look_at_both(self, sizes, begun, first, second, move):
        one = self.look_at(sizes, begun, first, second, move)
        other = self.look_at(sizes, begun, second, first, move)
        self.assertLessEqual(one & other, {first, second})
        self.assertEqual(key_of(sizes, first, second, move), key_of(sizes, second, first, move))

    def test_drawn_passings_of_all_dials(self):
        draw = random.Random(22)
        for sizes in all_dials(24):
            places = own_places(sizes)
            moves = dict(zip(places, drawn_dealing(draw, sizes)))
            for many in {2, min(3, len(places))}:
                free = draw.sample(places, many)
                begun = {person: moves[person] for person in draw.sample(places, len(places)) if person not in free}
                self.look_at_both(sizes, begun, free[0], free[1], draw.choice(places))

    def test_edges(self):
        takes, behind = self.told(passing, dials=(2,), begun={}, first=(1,), second=(0,), move=(1,))
        self.assertEqual((takes, behind), ([((1,), (1,))], {(1,): (1,)}))
        others = {(2,): (0,), (1,): (0,)}
        self.assertEqual(len(self.told(passing, dials=D4, begun=others, first=(0,), second=(3,), move=(1,))[1]), 3)
        self.assertEqual(self.told(key_of, dials=D4, first=(3,), second=(3,), move=(3,)), (1,))

    def test_wrong_begun(self):
        for begun in ({(0,): (1,), (1,): (0,)}, {(4,): (0,)}, {(0,): (4,)}, {0: (0,)}, {(0,): 0}, {(False,): (0,)},
                      {(0,): (True,)}, {(0,): [0]}, {None: None}, {"0": "0"}, [], (), None, [((0,), (1,))],
                      (((0,), (1,)),), {((0,),): (0,)}, {(0,): (0,), (1,): None}):
            self.refused(errors.BadBegun, passing, dials=D4, begun=begun, first=(3,), second=(2,), move=(2,))

    def test_wrong_persons(self):
        for first in ((0,), (1,), (4,), (True,), [3], 3, None, "3", (3, 3)):
            self.refused(errors.BadPerson, passing, dials=D4, begun=BEGUN, first=first, second=(2,), move=(2,))
            self.refused(errors.BadPerson, passing, dials=D4, begun=BEGUN, first=(2,), second=first, move=(2,))
        self.refused(errors.BadPerson, passing, dials=D4, begun=BEGUN, first=(3,), second=(3,), move=(2,))
        everybody = {(at,): (0,) for at in range(4)}
        self.refused(errors.BadPerson, passing, dials=D4, begun=everybody, first=(3,), second=(2,), move=(2,))
        del everybody[(3,)]
        self.refused(errors.BadPerson, passing, dials=D4, begun=everybody, first=(3,), second=(2,), move=(2,))
        self.refused(errors.BadPerson, passing, dials=(2,), begun={}, first=(False,), second=(1,), move=(0,))
        self.refused(errors.BadMove, passing, dials=D4, begun=BEGUN, first=(3,), second=(2,), move=(4,))


class Exchanges(Case):

    def test_example_by_hand(self):
        row = ((0,), (1,), (2,))
        found = self.told(exchanged, dials=(3,), dealing=row, one=(0,), other=(1,), move=(1,))
        self.assertEqual(found, ((1,), (2,), (0,)))

    def look_at(self, sizes, moves, one, other, move):
        found = self.told(exchanged, dials=sizes, dealing=moves, one=one, other=other, move=move)
        own = dict(zip(own_places(sizes), moves))
        passed = own_plus(sizes, own[one], move)
        row = collections.Counter(moves) - collections.Counter([own[one], own[other]])
        row += collections.Counter([passed, own_minus(sizes, own[other], move)])
        self.assertTrue(good_dealing(sizes, found))
        self.assertEqual(collections.Counter(found), row)
        begun = {person: own[person] for person in own if person not in (one, other)}
        behind = passing(sizes, begun, one, other, passed)[1]
        left, = [person for person in own if person not in behind]
        reached = [own_plus(sizes, person, behind[person]) for person in behind]
        empty, = [place for place in own if place not in reached]
        behind[left] = own_minus(sizes, empty, left)
        self.assertEqual(found, tuple(behind[person] for person in own))

    def test_all_exchanges_of_small_dials(self):
        for sizes in ((2,), (3,), (4,), (2, 2)):
            dealings = [moves for some in dealings_by_row(sizes).values() for moves in some]
            for moves in dealings:
                for one, other in itertools.permutations(own_places(sizes), 2):
                    for move in own_places(sizes):
                        self.look_at(sizes, moves, one, other, move)

    def test_drawn_exchanges_of_all_dials(self):
        draw = random.Random(23)
        for sizes in all_dials(24):
            one, other = draw.sample(own_places(sizes), 2)
            self.look_at(sizes, drawn_dealing(draw, sizes), one, other, draw.choice(own_places(sizes)))

    def test_wrong_persons(self):
        row = ((0,), (1,), (2,))
        for person in ((3,), (True,), [0], 0, None, "0", ()):
            self.refused(errors.BadPerson, exchanged, dials=(3,), dealing=row, one=person, other=(1,), move=(1,))
            self.refused(errors.BadPerson, exchanged, dials=(3,), dealing=row, one=(0,), other=person, move=(1,))
        self.refused(errors.BadPerson, exchanged, dials=(3,), dealing=row, one=(1,), other=(1,), move=(1,))
        for moves in (((0,), (0,), (1,)), ((0,), (2,), (2,)), list(row), None):
            self.refused(errors.BadDealing, exchanged, dials=(3,), dealing=moves, one=(0,), other=(1,), move=(1,))
        for move in ((3,), (True,), 1, None):
            self.refused(errors.BadMove, exchanged, dials=(3,), dealing=row, one=(0,), other=(1,), move=move)


class RowPaths(Case):

    def look_at(self, sizes, row, goal):
        found = self.told(row_path, dials=sizes, row=row, goal=goal)
        if own_total(sizes, row) != nothing(sizes) or own_total(sizes, goal) != nothing(sizes):
            self.assertIsNone(found)
            return
        self.assertLessEqual(len(found), len(own_places(sizes)))
        self.assertTrue(all(good_dealing(sizes, moves) for moves in found))
        self.assertEqual(tuple(sorted(found[0])), row)
        self.assertEqual(tuple(sorted(found[-1])), goal)
        for one, other in zip(found, found[1:]):
            unlike = collections.Counter(other) - collections.Counter(one)
            self.assertLessEqual(sum(unlike.values()), 2)

    def test_all_rows_of_small_dials(self):
        for sizes in ((2,), (3,), (4,), (2, 2)):
            for row, goal in itertools.product(all_rows(sizes), repeat=2):
                self.look_at(sizes, row, goal)

    def test_drawn_rows(self):
        draw = random.Random(24)
        for sizes in all_dials(24):
            goal = drawn_row(draw, sizes, nothing(sizes))
            self.look_at(sizes, drawn_row(draw, sizes, nothing(sizes)), goal)
            self.look_at(sizes, (nothing(sizes),) * len(own_places(sizes)), goal)
            other = draw.choice(own_places(sizes)[1:])
            self.look_at(sizes, drawn_row(draw, sizes, other), goal)
            self.look_at(sizes, goal, drawn_row(draw, sizes, other))
            self.look_at(sizes, goal, goal)

    def test_wrong_rows(self):
        row = ((0,), (1,), (2,))
        for wrong in (((1,), (0,), (2,)), list(row), ((0,), (1,)), ((False,), (1,), (2,)), None):
            self.refused(errors.BadRow, row_path, dials=(3,), row=wrong, goal=row)
            self.refused(errors.BadRow, row_path, dials=(3,), row=row, goal=wrong)
