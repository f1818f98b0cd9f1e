"""Promise 92: handings by one key."""

import itertools
import math

from movedround import errors
from movedround.hall import Hall
from movedround.onekey import handing, is_handing, leavers, left_by, often
from tests.judges_halls import drawn_own_hall, own_chains, own_handing, own_leavers, own_passed, seeded
from tests.support import Case, all_dials, anything, near_misses, own_minus, own_places
from tests.test_hall import hall_of

EXAMPLE = [((2,), (3,)), ((3,), (4,))]


def example():
    hall = Hall((5,))
    hall.come(tuple(own_places((5,))))
    hall.take((0,), (1,))
    hall.take((1,), (2,))
    return hall


def drawn_handing(draw, own, key):
    """A handing by pairs that are drawn; None where nobody is free."""
    held, pairs = dict(own.moves), []
    while True:
        free = sorted(set(own.tracks) - set(held))
        if len(free) < 2:
            return pairs if free else None
        pair = tuple(draw.sample(free, 2))
        pairs.append(pair)
        move = own_minus(own.sizes, own_minus(own.sizes, key, pair[0]), pair[1])
        held = own_passed(own.sizes, held, *pair, move)[0]


class OneKey(Case):

    def some_halls(self, seed, sizes_most, times):
        draw = seeded(seed)
        for sizes in all_dials(sizes_most):
            for _ in range(times):
                own = drawn_own_hall(draw, sizes, draw.randint(1, 14))
                yield draw, sizes, hall_of(own), own, draw.choice(own_places(sizes))

    def test_example_by_hand(self):
        hall = example()
        self.assertEqual(self.told(leavers, hall=hall, key=(2,)), ((0,), (2,), (3,)))
        self.assertIs(self.told(is_handing, hall=hall, key=(2,), thing=EXAMPLE), True)
        self.assertEqual(self.told(left_by, hall=hall, key=(2,), handing=EXAMPLE), (0,))
        self.assertEqual(self.told(often, hall=hall, key=(2,), handing=EXAMPLE), {(1,): 1, (2,): 1, (3,): 1, (4,): 1})
        other = hall.copy()
        self.assertEqual(other.hand((2,), (2,), (3,)), [((2,), (2,))])
        self.assertEqual(other.free(), [(3,), (4,)])
        self.assertEqual(other.hand((0,), (3,), (4,)), [((3,), (0,)), ((4,), (2,)), ((1,), (1,))])
        self.assertEqual(other.ends()[(3,)], (3,))
        self.assertEqual(other.free(), [(0,)])
        for person in own_places((5,)):
            found = self.told(handing, hall=hall, key=(2,), person=person)
            self.assertEqual(found is not None, person in ((0,), (2,), (3,)))

    def test_leavers_by_trying_all(self):
        seen = set()
        for draw, sizes, hall, own, key in self.some_halls(920, 5, 12):
            tried = own_leavers(own, key)
            self.assertEqual(self.told(leavers, hall=hall, key=key), tried)
            self.assertEqual(len(tried), len(own.free()))
            seen.add(len(tried))
            for person in own_places(sizes):
                self.look_at(hall, own, key, person, tried)
        self.assertTrue({0, 1, 2, 3} <= seen)

    def look_at(self, hall, own, key, person, tried):
        found = self.told(handing, hall=hall, key=key, person=person)
        self.assertEqual(found is not None, person in tried)
        if found is None:
            return 0
        takers, left = own_handing(own, key, found)
        self.assertEqual(left, person)
        self.assertIs(self.told(is_handing, hall=hall, key=key, thing=found), True)
        self.assertEqual(self.told(left_by, hall=hall, key=key, handing=found), person)
        counts = self.told(often, hall=hall, key=key, handing=found)
        self.assertEqual(counts, {one: takers.count(one) for one in sorted(set(takers))})
        for times in counts.values():
            self.assertLessEqual(2 ** (times - 1), len(own.tracks))
        return max(counts.values(), default=0)

    def test_leavers_are_the_last_ones_of_chains(self):
        most = set()
        for draw, sizes, hall, own, key in self.some_halls(921, 24, 3):
            free = own.free()
            wanted = sorted(chain[-1] for chain in own_chains(own, key)[0] if chain[0] in free)
            if len(free) == 1:
                wanted = free
            self.assertEqual(self.told(leavers, hall=hall, key=key), tuple(wanted))
            for person in wanted + draw.sample(own_places(sizes), 2):
                most.add(self.look_at(hall, own, key, person, wanted))
        self.assertTrue({0, 1, 2} <= most)

    def test_all_free(self):
        """Halls with somebody at each place who all are free, and with chains of any lengths behind some takes."""
        draw = seeded(922)
        for sizes in all_dials(24):
            hall = Hall(sizes)
            hall.come(tuple(own_places(sizes)))
            for number in range(3):
                own = drawn_own_hall(draw, sizes, 0)
                for deed in hall.log():
                    own.do(*deed)
                key = draw.choice(own_places(sizes))
                tried = leavers(hall, key)
                self.assertEqual(len(tried), len(hall.free()))
                for person in draw.sample(own_places(sizes), min(4, math.prod(sizes))):
                    self.look_at(hall, own, key, person, tried)
                for person in draw.sample(hall.free(), len(hall.free()) // 3):
                    goal = own_minus(sizes, key, draw.choice(own_places(sizes)))
                    if goal in hall.empty():
                        hall.take(person, own_minus(sizes, goal, person))

    def test_drawn_handings(self):
        for draw, sizes, hall, own, key in self.some_halls(923, 24, 2):
            thing = drawn_handing(draw, own, key)
            if thing is None:
                self.assertIs(is_handing(hall, key, []), False)
                self.refused(errors.BadHanding, left_by, hall=hall, key=key, handing=[])
                continue
            takers, left = own_handing(own, key, thing)
            self.assertIn(left, leavers(hall, key))
            self.assertIs(self.told(is_handing, hall=hall, key=key, thing=thing), True)
            self.assertEqual(self.told(left_by, hall=hall, key=key, handing=thing), left)
            counts = self.told(often, hall=hall, key=key, handing=tuple(thing))
            self.assertEqual(counts, {one: takers.count(one) for one in sorted(set(takers))})
            other = hall.copy()
            for first, second in thing:
                other.hand(own_minus(sizes, own_minus(sizes, key, first), second), first, second)
            self.assertEqual(other.free(), [left])
            if thing:
                self.assertIs(is_handing(hall, key, thing[:-1]), False)
                self.assertIs(is_handing(hall, key, thing + thing[-1:]), False)

    def test_any_value_is_judged_as_described(self):
        draw = seeded(924)
        for own in [drawn_own_hall(draw, sizes, 9) for sizes in ((3,), (5,), (2, 2), (2, 3), (5,))]:
            hall = hall_of(own)
            for key in own_places(own.sizes)[:2]:
                valid = drawn_handing(draw, own, key) or EXAMPLE
                for thing in anything() + list(near_misses(valid)):
                    judged = self.told(is_handing, hall=hall, key=key, thing=thing)
                    self.assertIs(judged, own_handing(own, key, thing) is not None, thing)
                    if not judged:
                        self.refused(errors.BadHanding, left_by, hall=hall, key=key, handing=thing)
                        self.refused(errors.BadHanding, often, hall=hall, key=key, handing=thing)
        hall = Hall((2,))
        hall.come(((0,), (1,)))
        self.assertIs(is_handing(hall, (0,), [((0,), (1,))]), True)
        for thing in ([((False,), (1,))], [((0,), (True,))], [[(0,), (1,)]], [((0,), (1,), (0,))], [((0,), (0,))], [],
                      [((0,), (1,)), ((0,), (1,))], [((0,),)], [(0, 1)], {((0,), (1,)): 1}, ((0,), (1,))):
            self.assertIs(self.told(is_handing, hall=hall, key=(0,), thing=thing), False)

    def test_one_and_nobody(self):
        hall = Hall((3,))
        for person in own_places((3,)):
            self.assertIsNone(self.told(handing, hall=hall, key=(1,), person=person))
        self.assertEqual(self.told(leavers, hall=hall, key=(1,)), ())
        self.assertIs(self.told(is_handing, hall=hall, key=(1,), thing=[]), False)
        hall.come(((0,), (1,)))
        hall.take((1,), (0,))
        # The chain of 0 ends with 1, but 0 is left.
        self.assertEqual(hall.chains((1,)), ([((0,), (1,))], []))
        self.assertEqual(self.told(leavers, hall=hall, key=(1,)), ((0,),))
        self.assertEqual(self.told(handing, hall=hall, key=(1,), person=(0,)), [])
        self.assertIsNone(self.told(handing, hall=hall, key=(1,), person=(1,)))
        self.assertEqual(self.told(left_by, hall=hall, key=(1,), handing=[]), (0,))
        self.assertEqual(self.told(often, hall=hall, key=(1,), handing=()), {})

    def test_what_is_refused(self):
        hall = example()
        for key in ((5,), (True,), [2], 2, None, (), (0, 0), "2", hall):
            for function, more in ((is_handing, {"thing": None}), (left_by, {"handing": None}),
                                   (often, {"handing": None}), (leavers, {}), (handing, {"person": None})):
                self.refused(errors.BadKey, function, hall=hall, key=key, **more)
        for person in ((5,), (True,), [2], 2, None, (), (0, 0), "2", hall):
            self.refused(errors.BadPerson, handing, hall=hall, key=(2,), person=person)
        for value in anything():
            if type(value) is not Hall:
                for function, more in ((is_handing, {"thing": None}), (left_by, {"handing": None}),
                                       (often, {"handing": None}), (leavers, {}), (handing, {"person": None})):
                    self.refused(errors.BadHall, function, hall=value, key=None, **more)

    def test_all_keys_of_small_halls(self):
        for key, takes in itertools.product(own_places((4,)), itertools.product(own_places((4,)), repeat=2)):
            hall = Hall((4,))
            hall.come(tuple(own_places((4,))))
            own = drawn_own_hall(seeded(0), (4,), 0)
            own.do("come", tuple(own_places((4,))))
            hall.take((0,), takes[0])
            own.do("take", (0,), takes[0])
            if own.owner(own_minus((4,), takes[1], (3,))) is None:
                hall.take((1,), takes[1])
                own.do("take", (1,), takes[1])
            tried = own_leavers(own, key)
            self.assertEqual(leavers(hall, key), tried)
            for person in own_places((4,)):
                self.look_at(hall, own, key, person, tried)
