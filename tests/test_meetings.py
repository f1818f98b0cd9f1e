"""Promise 48: meetings, plans and strong dealings."""

import itertools
import math
import random

from movedround import errors
from movedround.meetings import is_plan, is_strong, meetings, strongs
from movedround.mutual import mutuals
from movedround.straight import multiplied
from tests.judges import good_mutual, good_plan, good_strong, own_changes
from tests.support import Case, all_dials, anything, near_misses, own_places, own_plus

STRONG = ((0,), (4,), (1,), (6,), (2,), (3,), (5,))


def own_meetings(sizes, moves):
    found = []
    for day in own_places(sizes):
        found.append((day, day, day, None))
        for x, y in own_changes(sizes, moves):
            one, other = sorted((own_plus(sizes, x, day), own_plus(sizes, y, day)))
            found.append((day, own_plus(sizes, x, y, day), one, other))
    return sorted(found, key=lambda each: (each[:3], each[3] is None, each[3] or ()))


def strong_plan(sizes):
    return own_meetings(sizes, strongs(sizes)[0])


class Meetings(Case):

    def test_example_by_hand(self):
        self.assertEqual(own_changes((7,), STRONG), [((1,), (5,)), ((2,), (3,)), ((4,), (6,))])
        found = self.told(meetings, dials=(7,), dealing=STRONG)
        first = [((0,), (0,), (0,), None), ((0,), (3,), (4,), (6,)), ((0,), (5,), (2,), (3,)), ((0,), (6,), (1,), (5,))]
        self.assertEqual(found[:4], first)
        self.assertEqual(len(found), 28)
        self.assertIs(self.told(is_plan, dials=(7,), thing=found), True)
        for sizes, many in (((3,), 0), ((5,), 0), ((7,), 2), ((9,), 0), ((3, 3), 0), ((11,), 4), ((13,), 8)):
            self.assertEqual(len(self.told(strongs, dials=sizes)), many)

    def test_meetings_pair_by_pair(self):
        for sizes in all_dials(24):
            some = mutuals(sizes)[:12] if math.prod(sizes) <= 13 else [multiplied(sizes, -2)]
            for moves in some:
                if moves is None:
                    continue
                found = self.told(meetings, dials=sizes, dealing=moves)
                self.assertEqual(found, own_meetings(sizes, moves))
                self.look_at(sizes, moves, found)

    def look_at(self, sizes, moves, found):
        persons = own_places(sizes) + [None]
        pairs = [(one, other) for _, _, one, other in found]
        self.assertEqual(sorted(map(repr, pairs)), sorted(map(repr, itertools.combinations(persons, 2))))
        for place in own_places(sizes):
            on_day = [who for day, _, one, other in found for who in (one, other) if day == place]
            in_room = [who for _, room, one, other in found for who in (one, other) if room == place]
            for some in (on_day, in_room):
                self.assertEqual(sorted(map(repr, some)), sorted(map(repr, persons)))
        at_once = [(day, room) for day, room, _, _ in found]
        self.assertIs(len(set(at_once)) == len(at_once), good_strong(sizes, moves))
        self.assertIs(is_plan(sizes, found), good_strong(sizes, moves))
        self.assertIs(is_strong(sizes, moves), good_strong(sizes, moves))

    def test_not_mutual(self):
        for moves in (None, list(STRONG), ((0,),) * 7, multiplied((7,), 1), STRONG[:6], ((False,),) + STRONG[1:]):
            self.refused(errors.BadMutual, meetings, dials=(7,), dealing=moves)
        self.refused(errors.BadMutual, meetings, dials=(4,), dealing=((0,),) * 4)


class Plans(Case):

    def test_any_value_is_judged_as_described(self):
        plan = strong_plan((7,))
        for thing in anything() + list(near_misses(plan)):
            self.assertIs(self.told(is_plan, dials=(7,), thing=thing), good_plan((7,), thing), thing)
        for sizes in ((2,), (3,), (2, 2), (5,)):
            for thing in anything():
                self.assertIs(self.told(is_plan, dials=sizes, thing=thing), good_plan(sizes, thing), thing)

    def test_in_any_order(self):
        draw = random.Random(240)
        for sizes in ((7,), (11,)):
            plan = strong_plan(sizes)
            for _ in range(3):
                draw.shuffle(plan)
                self.assertIs(self.told(is_plan, dials=sizes, thing=plan), True)
                self.assertIs(is_plan(sizes, tuple(plan)), True)

    def test_what_is_wrong_in_one_place(self):
        plan = strong_plan((7,))
        other = own_meetings((7,), strongs((7,))[1])
        for thing in (plan[:-1], plan[1:], plan + plan[:1], plan[:-1] + plan[:1], [], plan + [((0,), (0,), (0,), (1,))],
                      [list(each) for each in plan], plan[:14] + other[14:], {1: plan}, [plan]):
            self.assertIs(self.told(is_plan, dials=(7,), thing=thing), good_plan((7,), thing))
            self.assertIs(is_plan((7,), thing), False)
        for at in (0, 1, 5, 27):
            day, room, one, two = plan[at]
            for each in ((day, room, one, one), (day, room, None, one), (day, room, two, one), (day, room, one),
                         (day, room, one, two, two), (room, day, one, two), (day, room, one, (7,)), (None, room, one, two),
                         (day, None, one, two), [day, room, one, two], (day, room, one, False), (day[0], room, one, two),
                         ((True,), room, one, two), (day, (False,), one, two)):
                if each != plan[at] or "True" in repr(each) or "False" in repr(each):
                    thing = plan[:at] + [each] + plan[at + 1:]
                    self.assertIs(self.told(is_plan, dials=(7,), thing=thing), False, each)
                    self.assertIs(good_plan((7,), thing), False)

    def test_two_exchanged(self):
        """Only the rooms, or only the days, or the partners are wrong."""
        draw = random.Random(241)
        plan = strong_plan((7,))
        for _ in range(200):
            one, other = draw.sample(range(len(plan)), 2)
            item = draw.randrange(4)
            thing = [list(each) for each in plan]
            thing[one][item], thing[other][item] = thing[other][item], thing[one][item]
            thing = [tuple(each) for each in thing]
            self.assertIs(is_plan((7,), thing), good_plan((7,), thing))

    def test_other_days_and_rooms(self):
        plan = strong_plan((7,))
        self.assertIs(is_plan((7,), [(day, (0,), one, other) for day, _, one, other in plan]), False)
        self.assertIs(is_plan((7,), [((0,), room, one, other) for _, room, one, other in plan]), False)
        days = {(0,): (1,), (1,): (0,)}
        self.assertIs(is_plan((7,), [(days.get(day, day), *rest) for day, *rest in plan]), True)
        self.assertIs(is_plan((7,), [(room, day, one, other) for day, room, one, other in plan]), True)

    def test_plans_that_fail_in_one_way_only(self):
        for moves in mutuals((7,)):
            if not good_strong((7,), moves):
                self.assertIs(is_plan((7,), own_meetings((7,), moves)), False)
        a, b, c = own_places((3,))
        twos = [((a, None), (b, c)), ((b, None), (a, c)), ((c, None), (a, b))]
        same_twos = [(day, room, *two) for day, rooms in ((a, (a, b)), (b, (b, c)), (c, (c, a)))
                     for room, two in zip(rooms, twos[0])]
        by_rooms = [(day, room, *two) for days, room, both in ((((a, b)), a, twos[0]), ((b, c), b, twos[1]),
                                                               ((c, a), c, twos[2])) for day, two in zip(days, both)]
        by_days = [(room, day, *two) for day, room, *two in by_rooms]
        persons = [a, b, c, None]
        for plan, fails in ((same_twos, "pairs"), (by_rooms, "days"), (by_days, "rooms")):
            self.assertEqual(len({each[:2] for each in plan}), 6)
            ways = {"pairs": [each[2:] for each in plan],
                    "days": [(each[0], who) for each in plan for who in each[2:]],
                    "rooms": [(each[1], who) for each in plan for who in each[2:]]}
            self.assertEqual([name for name, some in ways.items() if len(set(some)) < len(some)], [fails])
            self.assertEqual({who for each in plan for who in each[2:]}, set(persons))
            self.assertIs(good_plan((3,), plan), False)
            self.assertIs(self.told(is_plan, dials=(3,), thing=plan), False)


class Strong(Case):

    def test_all_strong_ones(self):
        for sizes in all_dials(13):
            self.assertEqual(self.told(strongs, dials=sizes),
                             [moves for moves in mutuals(sizes) if good_strong(sizes, moves)])

    def test_any_value_is_judged_as_described(self):
        for sizes, valid in (((7,), STRONG), ((3,), mutuals((3,))[0]), ((11,), strongs((11,))[0])):
            for thing in anything() + list(near_misses(valid)):
                self.assertIs(self.told(is_strong, dials=sizes, thing=thing), good_strong(sizes, thing), thing)
        for sizes in ((3,), (5,), (7,), (9,), (3, 3), (11,)):
            for moves in mutuals(sizes):
                self.assertIs(is_strong(sizes, moves), good_strong(sizes, moves))
        self.assertFalse(good_strong((7,), multiplied((7,), -2)))
        self.assertTrue(good_mutual((7,), multiplied((7,), -2)))

    def test_too_many(self):
        for sizes in ((14,), (15,), (24,)):
            self.too_many(13, strongs, dials=sizes)
