"""Promise 71: shades, orders to members, and heavy members."""

import itertools
import math
import random

from movedround import errors
from movedround.groups import Group, commutes, group_of, mixed_part, polygon
from movedround.shades import comes_to_nothing, heavy, is_order_to, is_shade, order_to, shade
from tests.judges_groups import all_groups, good_order_to, good_shade, own_after, own_turns
from tests.support import Case, all_dials, anything, near_misses, nothing, own_halves, own_places, own_total

SHADE3 = ((2,), ((0,), (0,), (0,), (1,), (1,), (1,)))


def own_shades(group, most):
    """Shades by trying all names, for few members; at most so many."""
    found = []
    for sizes in all_dials(len(group.table)):
        if len(group.table) % math.prod(sizes) == 0:
            for names in itertools.product(own_places(sizes), repeat=len(group.table)):
                if names[0] == nothing(sizes) and good_shade(group, (sizes, names)):
                    found.append((sizes, names))
                    if len(found) == most:
                        return found
    return found


def own_heavy(group):
    n = len(group.table)
    power = max(2 ** k for k in range(5) if n % 2 ** k == 0)
    members = [member for member in range(n) if own_turns(group.table, member) % power == 0]
    return members[0] if members and power > 1 else None


class Shades(Case):

    def test_example_by_hand(self):
        group = polygon(3)
        self.assertEqual(self.told(shade, group=group), SHADE3)
        self.assertIs(self.told(is_shade, group=group, thing=SHADE3), True)
        self.assertEqual(own_total((2,), SHADE3[1]), (1,))
        self.assertIs(self.told(comes_to_nothing, group=group), False)
        for member in (3, 4, 5):
            self.assertTrue(good_order_to(group, member, self.told(order_to, group=group, member=member)))
        for member in (0, 1, 2):
            self.assertIsNone(self.told(order_to, group=group, member=member))
        self.assertEqual(own_after(group.table, (0, 1, 2)), 0)
        self.assertEqual((group.table[3][4], group.table[1][5]), (1, 4))
        self.assertIs(self.told(is_order_to, group=group, member=4, thing=(0, 1, 2, 3, 4, 5)), True)
        self.assertEqual(self.told(heavy, group=group), 3)

    def test_each_group_has_a_shade(self):
        for group in all_groups():
            found = self.told(shade, group=group)
            self.assertTrue(good_shade(group, found), found)
            self.assertIs(self.told(is_shade, group=group, thing=found), True)
            sizes, names = found
            self.assertEqual(len(set(names)) == len(names), commutes(group))
            self.assertEqual(math.prod(sizes) * len(mixed_part(group)), len(names))

    def test_other_shades(self):
        for group in all_groups(6):
            own = own_shades(group, 12)
            self.assertTrue(own)
            totals = {own_total(sizes, names) == nothing(sizes) for sizes, names in own}
            self.assertEqual(totals, {comes_to_nothing(group)})
            for thing in own:
                self.assertIs(self.told(is_shade, group=group, thing=thing), True)
        group = group_of((2, 3))
        for sizes in ((6,), (2, 3), (3, 2)):
            self.assertTrue([each for each in own_shades(group, 99) if each[0] == sizes])

    def test_any_value_is_judged_as_described(self):
        for group in (polygon(3), group_of((4,)), group_of((2, 2)), group_of((2,)), polygon(4), group_of((3, 4))):
            valid = shade(group)
            sizes, names = valid
            things = [list(valid), (sizes, list(names)), (list(sizes), names), (sizes, names, 0), (sizes,),
                      (sizes, names[1:]), (sizes, names + names[:1]), (sizes, (nothing(sizes),) * len(names)),
                      ((2,), ((0,),) * len(names)), (sizes, tuple(map(list, names))), (sizes + (2,), names),
                      (sizes + (2,), tuple(name + (0,) for name in names)), (sizes, None), (None, names),
                      ((24,), tuple((2 * at,) for at in range(len(names)))), (sizes, dict(enumerate(names))), names]
            for thing in things + anything() + list(near_misses(valid)):
                judged = self.told(is_shade, group=group, thing=thing)
                self.assertIs(judged, good_shade(group, thing), thing)
        self.assertIs(is_shade(group_of((2,)), ((2,), ((0,), (1,)))), True)
        for thing in (((2,), ((False,), (1,))), ((2,), ((0,), (True,))), ((2,), ((1,), (0,)))):
            self.assertIs(self.told(is_shade, group=group_of((2,)), thing=thing), False)

    def test_what_keeps_sums_but_names_too_many_nothing(self):
        for group, thing in ((group_of((4,)), ((2,), ((0,), (1,), (0,), (1,)))),
                             (group_of((6,)), ((3,), tuple((at % 3,) for at in range(6)))),
                             (group_of((2, 2)), ((2,), ((0,), (0,), (1,), (1,)))),
                             (polygon(4), ((2,), ((0,),) * 4 + ((1,),) * 4))):
            self.assertFalse(good_shade(group, thing))
            self.assertIs(self.told(is_shade, group=group, thing=thing), False)
        # Names that are not all places of the dials.
        thing = ((4,), tuple((2 * at,) for at in range(2)))
        self.assertIs(self.told(is_shade, group=group_of((2,)), thing=thing), False)

    def test_comes_to_nothing(self):
        for group in all_groups():
            sizes, names = shade(group)
            self.assertIs(self.told(comes_to_nothing, group=group), own_total(sizes, names) == nothing(sizes))
        for sizes in all_dials(12):
            self.assertIs(comes_to_nothing(group_of(sizes)), len(own_halves(sizes)) != 1)


class Orders(Case):

    def test_exactly_what_the_shade_lets(self):
        for group in all_groups():
            sizes, names = shade(group)
            for member in range(len(names)):
                found = self.told(order_to, group=group, member=member)
                self.assertEqual(found is not None, names[member] == own_total(sizes, names))
                if found is not None:
                    self.assertTrue(good_order_to(group, member, found))
                    self.assertIs(self.told(is_order_to, group=group, member=member, thing=found), True)

    def test_all_orders_of_small_groups(self):
        for group in all_groups(7):
            n = len(group.table)
            reached = {own_after(group.table, order) for order in itertools.permutations(range(n))}
            self.assertEqual([member for member in range(n) if order_to(group, member) is not None], sorted(reached))

    def test_any_value_is_judged_as_described(self):
        draw = random.Random(710)
        for group in (polygon(3), group_of((4,)), group_of((2, 2)), group_of((2,)), polygon(5)):
            n = len(group.table)
            for member in range(n):
                valid = order_to(group, member) or tuple(draw.sample(range(n), n))
                for thing in anything() + list(near_misses(valid)) + [tuple(draw.sample(range(n), n)) for _ in range(9)]:
                    judged = self.told(is_order_to, group=group, member=member, thing=thing)
                    self.assertIs(judged, good_order_to(group, member, thing), thing)
        for thing in ((0, True), (False, 1), [0, 1], (0, 1, 1), (1, 1), (0,)):
            self.assertIs(self.told(is_order_to, group=group_of((2,)), member=1, thing=thing), False)
        self.assertIs(self.told(is_order_to, group=group_of((2,)), member=1, thing=(0, 1)), True)

    def test_wrong_groups_and_members(self):
        for member in (6, -1, True, False, None, "1", (1,), [1], 10 ** 9):
            self.refused(errors.BadMember, order_to, group=polygon(3), member=member)
            self.refused(errors.BadMember, is_order_to, group=polygon(3), member=member, thing=None)
        for value in anything():
            if type(value) is not Group:
                for function, more in ((shade, {}), (is_shade, {"thing": None}), (comes_to_nothing, {}), (heavy, {}),
                                       (order_to, {"member": None}), (is_order_to, {"member": None, "thing": None})):
                    self.refused(errors.BadGroup, function, group=value, **more)


class Heavy(Case):

    def test_none_exactly_if_all_come_to_nothing(self):
        seen = set()
        for group in all_groups():
            found = self.told(heavy, group=group)
            self.assertEqual(found, own_heavy(group))
            self.assertEqual(found is None, comes_to_nothing(group))
            seen.add(found is None)
        self.assertEqual(seen, {True, False})

    def test_an_odd_number_has_none(self):
        for number in (3, 5, 7, 9, 11):
            self.assertIsNone(heavy(group_of((number,))))
        self.assertEqual(heavy(group_of((12,))), 1)
        self.assertEqual(heavy(group_of((3, 4))), 1)
        self.assertEqual(heavy(group_of((2,))), 1)
        self.assertIsNone(heavy(group_of((2, 6))))
