"""Like signatures, for the functions from seatings to mixings."""

from movedround import errors, groups, mixings, seatings, shades, stuck, twomoves, wished
from movedround.groups import Group
from tests.judges import good_lot, good_lot_row
from tests.judges_groups import good_group_row, good_inner, good_member, good_members, good_mixing, good_outer
from tests.judges_groups import good_table, good_two_sided, table_of_dials, table_of_polygon
from tests.signatures import ANY, DIALS, MOVE, of_dials, spec, with_dials
from tests.signatures_walks import LOT, LOT_ROW, places_of
from tests.support import good_dials, good_place, is_num, is_some_list, nothing


def of_group(error, good):
    return error, lambda told, value: good(told["group"], value)


def good_turnings(thing):
    if not is_some_list(thing) or len(thing) == 0 or not all(type(each) is tuple for each in thing):
        return False
    several = list(range(len(thing[0])))
    if not 2 <= len(several) <= 8 or not all(is_num(at) for each in thing for at in each):
        return False
    return all(sorted(each) == several for each in thing) and any(list(each) != several for each in thing)


ONE_OF_ROW = (errors.BadMove, lambda told, value: good_place(told["dials"], value) and value in told["row"])
GOALS = (errors.BadGoals, lambda told, value: good_lot(told["dials"], value) and len(value) == len(told["lot"]))
SECOND = (errors.BadSecond, lambda told, value: good_lot_row(told["dials"], told["lot"], value))
STEP = of_dials(errors.BadStep, lambda sizes, value: good_place(sizes, value) and value != nothing(sizes))
NUMBER = (errors.BadNumber, lambda told, value: is_num(value) and 0 <= value <= len(told["lot"]))
TABLE = (errors.BadTable, lambda told, value: good_table(value))
GROUP = (errors.BadGroup, lambda told, value: type(value) is Group)
MEMBER = of_group(errors.BadMember, good_member)
SEVERAL = of_group(errors.BadSeveral, good_members)
SIDES = (errors.BadSides, lambda told, value: is_num(value) and 3 <= value <= 6)
TURNINGS = (errors.BadTurnings, lambda told, value: good_turnings(value))
MIXING = of_group(errors.BadMixing, good_mixing)
PART = of_group(errors.BadPart, good_two_sided)
INNER = (errors.BadInner, lambda told, value: good_inner(told["group"], told["part"], value))
OUTER = (errors.BadOuter, lambda told, value: good_outer(told["group"], told["part"], value))
GROUP_ROW = of_group(errors.BadRow, good_group_row)
SOME_DIALS = (errors.BadDials, lambda told, value: good_dials(value))

D4, D6 = (4,), (6,)
LOT4, ROW4 = places_of(0, 2), places_of(0, 2)
TREE4 = ((0,), {(0,): ((2,), {}), (2,): ((2,), {})})
LOT6, ROW6 = places_of(0, 1, 3, 5), places_of(0, 0, 2, 2)
G3 = Group(table_of_polygon(3))
C3 = Group(table_of_dials((3,)))
C33 = Group(table_of_dials((3, 3)))

SPECS = [
    spec(seatings.seating, with_dials(D6, lot=LOT6, row=ROW6), DIALS, LOT, LOT_ROW),
    spec(seatings.seatings_many, with_dials(D6, lot=LOT6, row=ROW6), DIALS, LOT, LOT_ROW),
    spec(seatings.part_bar, with_dials(D4, lot=LOT4, row=ROW4), DIALS, LOT, LOT_ROW),
    spec(seatings.all_but, with_dials(D6, lot=LOT6, row=ROW6, move=(2,)), DIALS, LOT, LOT_ROW, ONE_OF_ROW),
    spec(stuck.stuck, with_dials(D4, lot=LOT4, row=ROW4), DIALS, LOT, LOT_ROW),
    spec(stuck.is_stuck, with_dials(D4, lot=LOT4, row=ROW4, thing=TREE4), DIALS, LOT, LOT_ROW, ANY),
    spec(wished.wished, with_dials(D6, lot=LOT6, row=ROW6, goals=places_of(0, 1, 2, 5)), DIALS, LOT, LOT_ROW, GOALS),
    spec(wished.goals_reached, with_dials(D6, lot=LOT6, row=ROW6), DIALS, LOT, LOT_ROW),
    spec(wished.seated_on, with_dials(D6, lot=LOT6, row=ROW6, second=places_of(0, 1, 1, 4)),
         DIALS, LOT, LOT_ROW, SECOND),
    spec(twomoves.trains, with_dials(D6, lot=LOT6, step=(1,)), DIALS, LOT, STEP),
    spec(twomoves.two_many, with_dials(D6, lot=LOT6, one=(1,), other=(0,), number=2), DIALS, LOT, MOVE, MOVE, NUMBER),
    spec(twomoves.two_seating, with_dials(D6, lot=LOT6, one=(1,), other=(0,), number=2),
         DIALS, LOT, MOVE, MOVE, NUMBER),
    spec(groups.Group, {"table": table_of_polygon(3)}, TABLE),
    spec(groups.after, {"group": G3, "several": [3, 1]}, GROUP, SEVERAL),
    spec(groups.back, {"group": G3, "member": 1}, GROUP, MEMBER),
    spec(groups.turns, {"group": G3, "member": 1}, GROUP, MEMBER),
    spec(groups.commutes, {"group": G3}, GROUP),
    spec(groups.group_of, {"dials": (2, 3)}, SOME_DIALS),
    spec(groups.polygon, {"sides": 4}, SIDES),
    spec(groups.group_from, {"turnings": [(1, 2, 0), (1, 0, 2)]}, TURNINGS),
    spec(groups.part_from, {"group": G3, "several": [1]}, GROUP, SEVERAL),
    spec(groups.mixed_part, {"group": G3}, GROUP),
    spec(shades.shade, {"group": G3}, GROUP),
    spec(shades.is_shade, {"group": G3, "thing": ((2,), places_of(0, 0, 0, 1, 1, 1))}, GROUP, ANY),
    spec(shades.comes_to_nothing, {"group": G3}, GROUP),
    spec(shades.order_to, {"group": G3, "member": 4}, GROUP, MEMBER),
    spec(shades.is_order_to, {"group": G3, "member": 4, "thing": (0, 1, 2, 3, 4, 5)}, GROUP, MEMBER, ANY),
    spec(shades.heavy, {"group": G3}, GROUP),
    spec(mixings.mixing, {"group": C3}, GROUP),
    spec(mixings.is_mixing, {"group": C3, "thing": (0, 1, 2)}, GROUP, ANY),
    spec(mixings.mixings_many, {"group": C3}, GROUP),
    spec(mixings.moved_mixing, {"group": C3, "partners": (0, 1, 2), "first": 1, "last": 2},
         GROUP, MIXING, MEMBER, MEMBER),
    spec(mixings.joined_mixing, {"group": C33, "part": (0, 1, 2), "inner": {0: 0, 1: 1, 2: 2},
                                 "outer": {0: 0, 3: 3, 6: 6}}, GROUP, PART, INNER, OUTER),
    spec(mixings.group_dealing, {"group": G3, "row": (0, 0, 1, 2, 3, 3)}, GROUP, GROUP_ROW),
    spec(mixings.barred_row, {"group": G3}, GROUP),
]

NINES = tuple((at,) for at in range(9))
SEVENS = NINES[:7]
C12, C8 = Group(table_of_dials((12,))), Group(table_of_dials((2, 4)))
BEYOND = [
    (seatings.seating, with_dials((10,), lot=NINES, row=NINES), 8, with_dials((9,), lot=NINES, row=NINES)),
    (seatings.seatings_many, with_dials((9,), lot=NINES, row=NINES), 8,
     with_dials((9,), lot=NINES[1:], row=NINES[1:])),
    (stuck.stuck, with_dials((7,), lot=SEVENS, row=SEVENS), 6, with_dials((7,), lot=SEVENS[1:], row=SEVENS[1:])),
    (stuck.is_stuck, with_dials((7,), lot=SEVENS, row=SEVENS, thing=TREE4), 6,
     with_dials((7,), lot=SEVENS[1:], row=SEVENS[1:], thing=TREE4)),
    (wished.wished, with_dials((9,), lot=NINES, row=NINES, goals=NINES), 8,
     with_dials((9,), lot=NINES[1:], row=NINES[1:], goals=NINES[:8])),
    (wished.goals_reached, with_dials((7,), lot=SEVENS, row=SEVENS), 6,
     with_dials((7,), lot=SEVENS[1:], row=SEVENS[1:])),
    (wished.seated_on, with_dials((7,), lot=SEVENS, row=SEVENS, second=SEVENS), 6,
     with_dials((7,), lot=SEVENS[1:], row=SEVENS[1:], second=SEVENS[:6])),
    (groups.group_of, {"dials": (13,)}, 12, {"dials": (12,)}),
    (groups.group_from, {"turnings": [(1, 2, 3, 0), (1, 0, 2, 3)]}, 12, {"turnings": [(1, 2, 0, 3), (1, 0, 3, 2)]}),
    (mixings.mixings_many, {"group": C12}, 8, {"group": C8}),
    (mixings.group_dealing, {"group": C12, "row": (0,) * 12}, 8, {"group": C8, "row": (0,) * 8}),
]
