"""Promise 72: mixings, what comes of them, and rows that can and cannot be dealt in a group."""

import itertools
import random

from movedround import errors
from movedround.groups import Group, commutes, group_of, mixed_part, part_from, polygon
from movedround.mixings import barred_row, group_dealing, is_mixing, joined_mixing, mixing, mixings_many, moved_mixing
from movedround.shades import comes_to_nothing, shade
from tests.judges_groups import all_groups, all_inner, all_outer, good_group_dealing, good_group_row, good_inner
from tests.judges_groups import good_mixing, good_outer, good_two_sided, own_after, own_mixed, own_mixings, own_sides
from tests.support import Case, anything, near_misses, nothing, own_total


def all_parts(group):
    """All parts of a group, and those whose sides are the same from left and right."""
    n = len(group.table)
    parts = sorted({part_from(group, several) for several in itertools.product(range(n), repeat=2)}
                   | {part_from(group, several) for several in itertools.combinations(range(n), 3)})
    return parts, [part for part in parts if good_two_sided(group, part)]


def own_joined(group, part, inner, outer):
    table = group.table
    partner_of = {}
    for a, b in itertools.product(own_sides(group, part), part):
        partner_of[own_after(table, [a, b])] = own_after(table, [inner[b], outer[a]])
    return tuple(partner_of[member] for member in range(len(table)))


class Mixings(Case):

    def test_example_by_hand(self):
        group = group_of((3,))
        self.assertIs(self.told(is_mixing, group=group, thing=(0, 1, 2)), True)
        self.assertEqual([group.table[a][a] for a in range(3)], [0, 2, 1])
        self.assertIn(self.told(mixing, group=group), own_mixings(group))
        self.assertIn((0, 1, 2), own_mixings(group))
        self.assertIsNone(self.told(mixing, group=polygon(3)))
        self.assertEqual(self.told(mixings_many, group=polygon(3)), 0)
        self.assertEqual(self.told(barred_row, group=polygon(3)), (0, 0, 0, 0, 0, 1))
        self.assertIsNone(self.told(group_dealing, group=polygon(3), row=(0, 0, 0, 0, 0, 1)))

    def test_exactly_if_all_come_to_nothing(self):
        seen = set()
        for group in all_groups():
            found = self.told(mixing, group=group)
            self.assertEqual(found is not None, comes_to_nothing(group))
            seen.add(found is not None)
            if found is not None:
                self.assertTrue(good_mixing(group, found))
                self.assertIs(self.told(is_mixing, group=group, thing=found), True)
        self.assertEqual(seen, {True, False})

    def test_how_many(self):
        for group in all_groups():
            n = len(group.table)
            if n > 8:
                self.too_many(8, mixings_many, group=group)
                continue
            found = self.told(mixings_many, group=group)
            self.assertEqual(found, len(own_mixings(group)))
            self.assertEqual(found % n, 0)
            self.assertEqual(found > 0, mixing(group) is not None)

    def test_any_value_is_judged_as_described(self):
        for group in (group_of((3,)), group_of((2, 2)), group_of((5,)), polygon(3), group_of((2,)), polygon(4)):
            valid = mixing(group) or tuple(range(len(group.table)))
            for thing in anything() + list(near_misses(valid)):
                self.assertIs(self.told(is_mixing, group=group, thing=thing), good_mixing(group, thing), thing)
        for order in itertools.permutations(range(5)):
            self.assertIs(is_mixing(group_of((5,)), order), good_mixing(group_of((5,)), order))
        for thing in ((False, 1, 2), (0, True, 2), [0, 1, 2], (0, 1), (0, 1, 2, 2), (0, 0, 0), {0: 0, 1: 1, 2: 2}):
            self.assertIs(self.told(is_mixing, group=group_of((3,)), thing=thing), False)

    def test_moved(self):
        draw = random.Random(720)
        for group in all_groups():
            partners = mixing(group)
            n = len(group.table)
            if partners is None:
                continue
            pairs = list(itertools.product(range(n), repeat=2))
            for first, last in draw.sample(pairs, min(20, len(pairs))):
                found = self.told(moved_mixing, group=group, partners=partners, first=first, last=last)
                own = tuple(own_after(group.table, [partners[own_after(group.table, [first, member])], last])
                            for member in range(n))
                self.assertEqual(found, own)
                self.assertTrue(good_mixing(group, found))
                self.assertIs(is_mixing(group, found), True)

    def test_moved_of_all_mixings(self):
        for group in all_groups(5) + [group_of((2, 2))]:
            for partners in own_mixings(group):
                for first, last in itertools.product(range(len(group.table)), repeat=2):
                    self.assertTrue(good_mixing(group, moved_mixing(group, partners, first, last)))

    def test_moved_wrong(self):
        group = group_of((3,))
        told = {"group": group, "partners": (0, 1, 2)}
        for partners in (None, [0, 1, 2], (0, 0, 0), (0, 2, 1), (0, 1), (False, 1, 2), (0, True, 2), (0, 1, 3), {}):
            self.refused(errors.BadMixing, moved_mixing, group=group, partners=partners, first=None, last=None)
        for member in (3, -1, True, False, None, "0", (0,), [0]):
            self.refused(errors.BadMember, moved_mixing, **told, first=member, last=0)
            self.refused(errors.BadMember, moved_mixing, **told, first=0, last=member)


class Joined(Case):

    def test_all_inner_and_outer_of_small_groups(self):
        many = 0
        for group in all_groups(9):
            for part in all_parts(group)[1]:
                outers = list(itertools.islice(all_outer(group, part), 12))
                for inner in itertools.islice(all_inner(group, part), 12):
                    for outer in outers:
                        found = self.told(joined_mixing, group=group, part=part, inner=inner, outer=outer)
                        self.assertEqual(found, own_joined(group, part, inner, outer))
                        self.assertTrue(good_mixing(group, found))
                        self.assertIs(is_mixing(group, found), True)
                        many += 1
        self.assertGreater(many, 200)

    def test_greater_groups(self):
        draw = random.Random(721)
        for group in all_groups():
            if len(group.table) > 9:
                for part in all_parts(group)[1]:
                    if max(len(part), len(group.table) // len(part)) <= 6:
                        for inner in itertools.islice(all_inner(group, part), 3):
                            outers = list(itertools.islice(all_outer(group, part), 60))
                            for outer in draw.sample(outers, min(3, len(outers))):
                                found = self.told(joined_mixing, group=group, part=part, inner=inner, outer=outer)
                                self.assertEqual(found, own_joined(group, part, inner, outer))
                                self.assertTrue(good_mixing(group, found))

    def test_order_of_keys_has_no_meaning(self):
        group = group_of((3, 3))
        inner, outer = {0: 0, 1: 1, 2: 2}, {0: 0, 3: 3, 6: 6}
        found = self.told(joined_mixing, group=group, part=(0, 1, 2), inner=inner, outer=outer)
        other = joined_mixing(group, (0, 1, 2), {2: 2, 0: 0, 1: 1}, {6: 6, 3: 3, 0: 0})
        self.assertEqual(found, other)

    def test_parts_that_are_none(self):
        seen = set()
        for group in all_groups(8):
            parts, two_sided = all_parts(group)
            for part in parts:
                seen.add(part in two_sided)
                wrong = errors.BadInner if part in two_sided else errors.BadPart
                self.refused(wrong, joined_mixing, group=group, part=part, inner=None, outer=None)
            for part in ((), (1,), list(parts[-1]), parts[-1][::-1], parts[-1][1:], parts[-1] + parts[-1][-1:],
                         (0, 0), (False,), None, 0, "0", {0: 0}, (0, len(group.table)), (None,), ((0,),), group):
                self.refused(errors.BadPart, joined_mixing, group=group, part=part, inner=None, outer=None)
        self.assertEqual(seen, {True, False})
        self.refused(errors.BadPart, joined_mixing, group=group_of((2,)), part=(0, True), inner=None, outer=None)
        # Three members of a polygon that stay when one corner is turned over: not the same from both sides.
        self.refused(errors.BadPart, joined_mixing, group=polygon(3), part=(0, 3), inner=None, outer=None)

    def test_inner_and_outer_that_are_none(self):
        group, part = group_of((3, 3)), (0, 1, 2)
        good_inside, good_outside = {0: 0, 1: 1, 2: 2}, {0: 0, 3: 3, 6: 6}
        inners = [{0: 0, 1: 1}, {0: 0, 1: 1, 2: 1}, {0: 0, 1: 2, 2: 1}, {0: 0, 1: 1, 2: 2, 3: 3}, {0: 0, 1: 1, 3: 3},
                  {False: 0, 1: 1, 2: 2}, {0: 0, True: 1, 2: 2}, {0: 0, 1: True, 2: 2}, {0: False, 1: 1, 2: 2}, {},
                  {0: 0, 1: 1, 2: 4}, {0: 0, 1: 1, 2: None}, [0, 1, 2], (0, 1, 2), None, {"0": 0, 1: 1, 2: 2},
                  {0: 1, 1: 2, 2: 0}, [(0, 0), (1, 1), (2, 2)], {0: 0, 1: 1, 2: [2]}, {0: 0, 1: 1, None: 2}]
        for inner in inners + anything() + list(near_misses(good_inside)):
            if not good_inner(group, part, inner):
                self.refused(errors.BadInner, joined_mixing, group=group, part=part, inner=inner, outer=None)
            else:
                self.told(joined_mixing, group=group, part=part, inner=inner, outer=good_outside)
        outers = [{0: 0, 3: 3}, {0: 0, 3: 3, 6: 3}, {0: 0, 3: 6, 6: 3}, {0: 0, 3: 3, 6: 6, 1: 1}, {0: 0, 4: 4, 8: 8},
                  {0: 0, 3: 3, 7: 7}, {False: 0, 3: 3, 6: 6}, {0: False, 3: 3, 6: 6}, {0: 0, 1: 1, 2: 2}, {}, None,
                  {0: 0, 3: 4, 6: 8}, {0: 1, 3: 3, 6: 6}, {0: 0, 3: 3, 6: 7}, [0, 3, 6], {0: 0, 3: 3, 6: "6"},
                  {0: 3, 3: 6, 6: 0}, {0: 0, 3: 3, (6,): 6}, {0: 0, 3: 3, 6: (6,)}, {0: 0, 3: 3, None: 6}]
        for outer in outers + anything() + list(near_misses(good_outside)):
            told = {"group": group, "part": part, "inner": good_inside, "outer": outer}
            if not good_outer(group, part, outer):
                self.refused(errors.BadOuter, joined_mixing, **told)
            else:
                self.told(joined_mixing, **told)

    def test_all_of_a_part_of_two(self):
        """Two members have no mixing: so a part of two has no inner, and two sides have no outer."""
        group = group_of((2, 2))
        for inner in ({0: 0, 1: 1}, {0: 1, 1: 0}):
            self.refused(errors.BadInner, joined_mixing, group=group, part=(0, 1), inner=inner, outer={})
        self.refused(errors.BadOuter, joined_mixing, group=group_of((2,)), part=(0,), inner={0: 0}, outer={0: 0, 1: 1})
        whole = mixing(group)
        found = self.told(joined_mixing, group=group, part=(0, 1, 2, 3), inner=dict(enumerate(whole)), outer={0: 0})
        self.assertEqual(found, whole)
        found = self.told(joined_mixing, group=group, part=(0,), inner={0: 0}, outer=dict(enumerate(whole)))
        self.assertEqual(found, whole)


class Rows(Case):

    def look_at(self, group, row):
        found = self.told(group_dealing, group=group, row=row)
        if found is not None:
            self.assertTrue(good_group_dealing(group, row, found))
        return found is not None

    def names_add_up(self, group, row):
        sizes, names = shade(group)
        return own_total(sizes, [names[member] for member in row]) == nothing(sizes)

    def test_all_rows_of_small_groups_that_commute(self):
        for group in all_groups(6):
            n = len(group.table)
            for row in itertools.combinations_with_replacement(range(n), n):
                if commutes(group):
                    self.assertEqual(self.look_at(group, row), self.names_add_up(group, row))
                else:
                    own = any(good_group_dealing(group, row, order) for order in set(itertools.permutations(row))) \
                        if row[3] == 0 else None
                    found = self.look_at(group, row)
                    self.assertIn(own, (None, found))
                    self.assertTrue(not found or self.names_add_up(group, row))

    def test_drawn_rows_of_seven_and_eight(self):
        draw = random.Random(722)
        for group in all_groups(8):
            n = len(group.table)
            for _ in range(25 if n > 6 else 0):
                row = tuple(sorted(draw.choices(range(n), k=n)))
                found = self.look_at(group, row)
                if commutes(group):
                    self.assertEqual(found, self.names_add_up(group, row))
                else:
                    self.assertTrue(not found or self.names_add_up(group, row))

    def test_the_row_of_all_members_has_the_mixings(self):
        for group in all_groups(8):
            row = tuple(range(len(group.table)))
            self.assertEqual(self.look_at(group, row), mixing(group) is not None)

    def test_barred_rows(self):
        for group in all_groups():
            n = len(group.table)
            row = self.told(barred_row, group=group)
            self.assertEqual(row is None, commutes(group))
            if row is not None:
                self.assertEqual(row, (0,) * (n - 1) + (own_mixed(group.table)[1],))
                self.assertEqual(row[-1], mixed_part(group)[1])
                self.assertIs(self.names_add_up(group, row), True)
                self.assertFalse([order for order in set(itertools.permutations(row[-3:]))
                                  if good_group_dealing(group, row, row[:-3] + order)])
                if n <= 8:
                    self.assertIsNone(self.told(group_dealing, group=group, row=row))

    def test_too_many_and_what_is_no_row(self):
        for group in all_groups():
            n = len(group.table)
            for row in ((0,) * n, tuple(range(n))):
                if n > 8:
                    self.too_many(8, group_dealing, group=group, row=row)
                else:
                    self.told(group_dealing, group=group, row=row)
                for wrong in (row[1:], row + row[-1:], list(row), row[:-1] + (n,), row[:-1] + (None,), None, {},
                              (-1,) + row[1:], (False,) + row[1:], row[:-1] + (True,), (1,) + row[1:-1] + (0,)):
                    if not good_group_row(group, wrong):
                        self.refused(errors.BadRow, group_dealing, group=group, row=wrong)

    def test_what_is_no_group(self):
        for value in anything():
            if type(value) is not Group:
                for function, more in (
                        (mixing, {}), (is_mixing, {"thing": None}), (mixings_many, {}), (barred_row, {}),
                        (moved_mixing, {"partners": None, "first": None, "last": None}),
                        (joined_mixing, {"part": None, "inner": None, "outer": None}), (group_dealing, {"row": None})):
                    self.refused(errors.BadGroup, function, group=value, **more)
