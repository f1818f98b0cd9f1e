"""Promise 70: groups, their tables, and what members come to."""

import itertools
import random

from movedround import errors
from movedround.groups import Group, after, back, commutes, group_from, group_of, mixed_part, part_from, polygon, turns
from tests.judges_groups import DOUBLED, FOURFOLD, TWELVEFOLD, all_groups, all_tables, good_table, orders_from
from tests.judges_groups import own_after, own_back, own_commutes, own_mixed, own_part_from, own_turns, renumbered
from tests.judges_groups import table_of_dials, table_of_orders, table_of_polygon
from tests.support import Case, all_dials, anything, near_misses

TWO = ((0, 1), (1, 0))
THREE = ((0, 1, 2), (1, 2, 0), (2, 0, 1))
# Each line and each column has each number once and 0 moves nothing, but brackets count.
WITH_BRACKETS = ((0, 1, 2, 3, 4), (1, 0, 3, 4, 2), (2, 4, 0, 1, 3), (3, 2, 4, 0, 1), (4, 3, 1, 2, 0))


class Tables(Case):

    def test_all_small_tables(self):
        for n in (2, 3):
            lines = list(itertools.product(range(n), repeat=n))
            for table in itertools.product(lines, repeat=n):
                if good_table(table):
                    self.assertEqual(Group(table).table, table)
                else:
                    self.assertRaises(errors.BadTable, Group, table)

    def test_any_value_is_judged_as_described(self):
        for valid in (TWO, THREE, table_of_polygon(3), table_of_dials((2, 2))):
            for value in anything() + list(near_misses(valid)):
                if good_table(value):
                    self.assertEqual(Group(value).table, value)
                    self.assertEqual(Group(table=value).table, value)
                else:
                    self.refused(errors.BadTable, Group, table=value)

    def test_tables_of_all_sizes(self):
        for table in all_tables():
            self.assertEqual(Group(table).table, table)
        self.refused(errors.BadTable, Group, table=((0,),))
        self.refused(errors.BadTable, Group, table=())
        self.assertEqual(len(Group(table_of_dials((12,))).table), 12)
        self.refused(errors.BadTable, Group, table=table_of_dials((13,)))

    def test_what_is_no_table(self):
        for table in (((0, 1), (1, 1)), ((0, 0), (1, 0)), ((1, 0), (0, 1)), ((0, 1), (0, 1)), ((0, 1, 2), (1, 0, 2)),
                      ((0, 1), (1, 0, 2)), [(0, 1), (1, 0)], ([0, 1], [1, 0]), ((0, True), (True, 0)),
                      ((False, 1), (1, False)), ((0, 1), (1, 2)), ((0, 1), (1, -2)), ((0, 1), (1, None)),
                      ((0, 1, 2), (2, 0, 1), (1, 2, 0)), ((0, 1, 2), (1, 2, 0), (2, 0, 0)), WITH_BRACKETS, Group(TWO)):
            self.refused(errors.BadTable, Group, table=table)
        # Nothing but the brackets is wrong here.
        self.assertTrue(all(sorted(line) == list(range(5)) for line in WITH_BRACKETS + tuple(zip(*WITH_BRACKETS))))

    def test_one_wrong_item_of_a_greater_table(self):
        draw = random.Random(701)
        for table in all_tables():
            n = len(table)
            for _ in range(6):
                row, column, number = draw.randrange(n), draw.randrange(n), draw.randrange(n)
                line = table[row][:column] + (number,) + table[row][column + 1:]
                other = table[:row] + (line,) + table[row + 1:]
                if other != table:
                    self.assertFalse(good_table(other))
                    self.refused(errors.BadTable, Group, table=other)
            one, other = draw.sample(range(n), 2)
            changed = list(table)
            changed[one], changed[other] = changed[other], changed[one]
            self.refused(errors.BadTable, Group, table=tuple(changed))

    def test_equal_exactly_if_the_tables_are(self):
        groups = all_groups()
        for one, other in itertools.product(groups, repeat=2):
            self.assertIs(one == other, one.table == other.table)
            self.assertIs(one != other, one.table != other.table)
        for table in (TWO, THREE):
            self.assertIs(Group(table) == Group(tuple(tuple(line) for line in table)), True)
            for value in anything():
                if type(value) is not Group:
                    self.assertIs(Group(table) == value, False)
                    self.assertIs(value == Group(table), False)
                    self.assertIs(Group(table) != value, True)
        self.assertIs(Group(TWO) == TWO, False)
        self.assertEqual([Group(TWO)], [Group(TWO)])


class Members(Case):

    def test_as_described(self):
        draw = random.Random(702)
        for group in all_groups():
            n = len(group.table)
            self.assertIs(self.told(commutes, group=group), own_commutes(group.table))
            for member in range(n):
                found = self.told(back, group=group, member=member)
                self.assertEqual(found, own_back(group.table, member))
                self.assertEqual(group.table[member][found], 0)
                self.assertEqual(group.table[found][member], 0)
                self.assertEqual(self.told(turns, group=group, member=member), own_turns(group.table, member))
            for many in (0, 1, 2, 3, 7, 20):
                several = draw.choices(range(n), k=many)
                found = self.told(after, group=group, several=several)
                self.assertEqual(found, own_after(group.table, several))
                self.assertEqual(after(group, tuple(several)), found)
            self.assertEqual(self.told(after, group=group, several=[]), 0)

    def test_parts(self):
        draw = random.Random(703)
        for group in all_groups():
            n = len(group.table)
            for many in (0, 1, 2, 3, n):
                several = draw.choices(range(n), k=many)
                found = self.told(part_from, group=group, several=several)
                self.assertEqual(found, own_part_from(group.table, several))
                self.assertLessEqual({0, *several}, set(found))
                self.assertEqual({group.table[a][b] for a in found for b in found}, set(found))
                self.assertEqual(part_from(group, tuple(several)), found)
            self.assertEqual(self.told(part_from, group=group, several=[]), (0,))
            mixed = self.told(mixed_part, group=group)
            self.assertEqual(mixed, own_mixed(group.table))
            self.assertEqual(mixed == (0,), commutes(group))
            self.assertLess(len(mixed), n)

    def test_what_is_not_described(self):
        group = Group(THREE)
        for value in anything():
            if type(value) is not Group:
                for function, more in ((after, {"several": None}), (back, {"member": None}), (turns, {"member": None}),
                                       (commutes, {}), (part_from, {"several": None}), (mixed_part, {})):
                    self.refused(errors.BadGroup, function, group=value, **more)
        for member in (3, -1, True, False, None, "1", (1,), [1], 10 ** 9):
            self.refused(errors.BadMember, back, group=group, member=member)
            self.refused(errors.BadMember, turns, group=group, member=member)
            for function in (after, part_from):
                self.refused(errors.BadSeveral, function, group=group, several=[0, member])
        for several in (None, 1, True, "01", {0: 1}, {1: 1}, [None], [[1]], ((1,),), [1, 3], (True,), [0, False], group):
            for function in (after, part_from):
                self.refused(errors.BadSeveral, function, group=group, several=several)


class Made(Case):

    def test_example_by_hand(self):
        group = self.told(polygon, sides=3)
        self.assertEqual(len(group.table), 6)
        self.assertEqual(group.table[3][1], 4)
        self.assertEqual(group.table[1][3], 5)
        self.assertEqual(self.told(after, group=group, several=[3, 1]), 4)
        self.assertEqual(self.told(after, group=group, several=[1, 3]), 5)
        self.assertEqual(self.told(mixed_part, group=group), (0, 1, 2))
        self.assertIs(self.told(commutes, group=group), False)

    def test_polygon(self):
        for sides in (3, 4, 5, 6):
            found = self.told(polygon, sides=sides)
            self.assertEqual(found.table, table_of_polygon(sides))
            self.assertIs(commutes(found), False)
        for sides in (2, 7, 0, 1, -3, True, None, "3", (3,), [3], 10 ** 9, {}, Group(TWO)):
            self.refused(errors.BadSides, polygon, sides=sides)

    def test_group_of(self):
        for sizes in all_dials(12):
            found = self.told(group_of, dials=sizes)
            self.assertEqual(found.table, table_of_dials(sizes))
            self.assertIs(commutes(found), True)
        for sizes in all_dials(24):
            if len(table_of_dials(sizes)) > 12:
                self.too_many(12, group_of, dials=sizes)
        self.assertEqual(len(group_of((12,)).table), 12)
        self.too_many(12, group_of, dials=(13,))
        for value in (None, (), (1,), (25,), [3], (True, 2), (5, 5), 3, Group(TWO)):
            self.refused(errors.BadDials, group_of, dials=value)

    def test_group_from(self):
        draw = random.Random(704)
        some = [[(1, 0)], [(0, 1), (1, 0)], FOURFOLD, TWELVEFOLD, DOUBLED, [(1, 2, 3, 4, 5, 6, 7, 0)],
                [(1, 0, 2, 3, 4, 5, 6, 7)], [(1, 0, 3, 2), (2, 3, 0, 1)], [tuple(range(8)), (1, 0, 3, 2, 5, 4, 7, 6)]]
        for m in range(2, 9):
            for _ in range(12):
                several = [tuple(draw.sample(range(m), m)) for _ in range(draw.randint(1, 2))]
                if any(list(each) != sorted(each) for each in several):
                    some.append(several)
        seen = set()
        for several in some:
            own = orders_from_at_most(several)
            seen.add(own is None)
            if own is None:
                self.too_many(12, group_from, turnings=several)
            else:
                found = self.told(group_from, turnings=several)
                self.assertEqual(found.table, table_of_orders(own))
                self.assertEqual(group_from(tuple(several)), found)
        self.assertEqual(seen, {True, False})
        # Seven and five turned on: 35 members; three and four: 12.
        self.too_many(12, group_from, turnings=[(1, 2, 3, 4, 0, 5, 6), (0, 1, 2, 3, 4, 6, 5), (1, 0, 2, 3, 4, 5, 6)])
        self.assertEqual(len(group_from([(1, 2, 0, 3, 4, 5, 6), (0, 1, 2, 4, 5, 6, 3)]).table), 12)
        self.too_many(12, group_from, turnings=[(1, 2, 3, 4, 0, 5, 6, 7), (0, 1, 2, 3, 4, 6, 7, 5)])

    def test_one_and_then_other(self):
        found = group_from([(1, 2, 0), (1, 0, 2)])
        several = sorted(itertools.permutations(range(3)))
        for one, other in itertools.product(range(6), repeat=2):
            both = tuple(several[other][several[one][i]] for i in range(3))
            self.assertEqual(found.table[one][other], several.index(both))

    def test_what_are_no_turnings(self):
        for turnings in ([], (), None, [()], [(0,)], [(0, 1)], [(0, 1), (0, 1)], [tuple(range(8))], [(1, 0), (0, 1, 2)],
                         [(1, 0), (1, 2, 0)], [(1, 2, 3, 4, 5, 6, 7, 8, 0)], [(1, 1)], [(1, 2)], [[1, 0]], [(1, 0), None],
                         [(True, 0)], [(1, False)], [(1, 0), [0, 1]], (1, 0), "10", {(1, 0): 1}, [(0, 2, 1), (0, 1)],
                         [("1", "0")], [(None, 0)], 5, Group(TWO), [Group(TWO)], [(1, -1)]):
            self.refused(errors.BadTurnings, group_from, turnings=turnings)
        for value in anything():
            if value != TWO:
                self.refused(errors.BadTurnings, group_from, turnings=value)
        self.assertEqual(self.told(group_from, turnings=[(1, 0)]).table, TWO)
        self.assertEqual(len(self.told(group_from, turnings=[(1, 2, 3, 4, 5, 6, 7, 0)]).table), 8)
        # More members than twelve, and something that is no turning behind: this is told.
        self.refused(errors.BadTurnings, group_from, turnings=[(1, 2, 3, 4, 0), (1, 0, 2, 3, 4), (0, 1)])

    def test_other_numbers_make_other_groups(self):
        draw = random.Random(705)
        table = table_of_polygon(4)
        other = renumbered(table, draw)
        self.assertNotEqual(Group(table), Group(other))
        self.assertEqual(len(mixed_part(Group(other))), len(mixed_part(Group(table))))


def orders_from_at_most(several):
    """All tuples that come of these; None if they are more than 12."""
    found = {tuple(range(len(several[0])))}
    while len(found) <= 12:
        more = found | {tuple(other[at] for at in one) for one in found for other in several}
        if more == found:
            return sorted(found)
        found = more
    return None
