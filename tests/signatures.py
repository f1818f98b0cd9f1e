"""Each function of the interface with good arguments, what is refused of each parameter, and by which error."""

from movedround import balances, behind, changes, dealings, dials, exchanges, manydealings, manyunlike, passing
from movedround import shifts, sides, unlike, weighings
from movedround import errors
from tests.support import good_begun, good_dealing, good_dials, good_known, good_moves, good_part, good_place
from tests.support import good_places, good_renaming, good_row, good_unlike, good_weighing, is_num, own_places

# A kind tells the error and whether a value is good, by the arguments and the value.
DIALS = (errors.BadDials, lambda told, value: good_dials(value))


def of_dials(error, good, among="dials"):
    return error, lambda told, value: good(told[among], value)


def other_person(error, first, free=False):
    def good(told, value):
        taken = told["begun"] if free else ()
        return good_place(told["dials"], value) and value not in taken and value != told.get(first)
    return error, good


def number_between(error, low, high):
    return error, lambda told, value: is_num(value) and low <= value <= high


PLACE = of_dials(errors.BadPlace, good_place)
MOVE = of_dials(errors.BadMove, good_place)
SEVERAL = of_dials(errors.BadSeveral, good_places)
ROW = of_dials(errors.BadRow, good_row)
DEALING = of_dials(errors.BadDealing, good_dealing)
UNLIKE = of_dials(errors.BadUnlike, good_unlike)
MOST = (errors.BadMost, lambda told, value: is_num(value) and 0 <= value <= len(own_places(told["dials"])))
SAME_ROW = (errors.BadDealing, lambda told, value: good_dealing(told["dials"], value)
            and sorted(value) == sorted(told["one"]))
BEGIN = (errors.BadBegin, lambda told, value: type(value) is tuple and good_places(told["dials"], value)
         and len(value) <= len(own_places(told["dials"])))
NAMES = (errors.BadNames, lambda told, value: good_renaming(told["dials"], told["other"], value))
ORDER = (errors.BadOrder, lambda told, value: type(value) is tuple and all(is_num(at) for at in value)
         and sorted(value) == [0, 1, 2])
BESIDE = (errors.BadDials, lambda told, value: good_dials(value) and good_dials(told["one"] + value))
BEGUN = of_dials(errors.BadBegun, good_begun)
ANY = (None, lambda told, value: True)

D4 = (4,)
DEALT = ((1,), (1,), (2,), (0,))
ROW4 = ((0,), (1,), (1,), (2,))
STILL4 = ((0,),) * 4
D22 = (2, 2)
PLACES22 = ((0, 0), (0, 1), (1, 0), (1, 1))
UNLIKE22 = ((0, 0), (1, 0), (1, 1), (0, 1))
UNLIKE3 = ((0,), (1,), (2,))
BY_BOTH = [((at,), (at % 2, at % 3)) for at in range(6)]
STILL6 = ((0,),) * 6
MODULUS = number_between(errors.BadModulus, 2, 24)
INDEX = number_between(errors.BadIndex, 0, 999999999)
NUMBER = number_between(errors.BadNumber, -999999999, 999999999)


def spec(function, told, *kinds):
    return function, told, dict(zip(told, kinds))


def with_dials(sizes, **more):
    return {"dials": sizes, **more}


SPECS = [
    spec(dials.places, with_dials(D4), DIALS),
    spec(dials.plus, with_dials((2, 4), one=(1, 3), other=(1, 2)), DIALS, PLACE, PLACE),
    spec(dials.less, with_dials((2, 4), one=(1, 3), other=(0, 2)), DIALS, PLACE, PLACE),
    spec(dials.total, with_dials((2, 4), several=[(1, 3), (0, 2)]), DIALS, SEVERAL),
    spec(dials.times, with_dials((2, 4), place=(1, 3), number=3), DIALS, PLACE, NUMBER),
    spec(dials.turn_of, with_dials((2, 4), place=(1, 3)), DIALS, PLACE),
    spec(dials.halves, with_dials(D4), DIALS),
    spec(dials.whole, with_dials(D4), DIALS),
    spec(shifts.part_of, with_dials((2, 4), several=[(1, 2)]), DIALS, SEVERAL),
    spec(shifts.parts, with_dials(D4), DIALS),
    spec(shifts.shifts, with_dials((6,), part=((0,), (2,), (4,))), DIALS, of_dials(errors.BadPart, good_part)),
    spec(shifts.renaming, {"one": (6,), "other": (2, 3)}, DIALS, DIALS),
    spec(shifts.is_renaming, {"one": (6,), "other": (2, 3), "thing": BY_BOTH}, DIALS, DIALS, ANY),
    spec(dealings.ends, with_dials(D4, moves=ROW4), DIALS, of_dials(errors.BadMoves, good_moves)),
    spec(dealings.is_dealing, with_dials(D4, thing=DEALT), DIALS, ANY),
    spec(dealings.row_of, with_dials(D4, dealing=DEALT), DIALS, DEALING),
    spec(dealings.is_dealing_of, with_dials(D4, row=ROW4, thing=DEALT), DIALS, ROW, ANY),
    spec(dealings.dealing, with_dials(D4, row=ROW4), DIALS, ROW),
    spec(passing.passing, with_dials(D4, begun={(0,): (1,), (1,): (1,)}, first=(3,), second=(2,), move=(2,)),
         DIALS, BEGUN, other_person(errors.BadPerson, None, True), other_person(errors.BadPerson, "first", True), MOVE),
    spec(passing.key_of, with_dials(D4, first=(3,), second=(2,), move=(2,)), DIALS, PLACE, PLACE, MOVE),
    spec(passing.exchanged, with_dials(D4, dealing=DEALT, one=(0,), other=(1,), move=(1,)),
         DIALS, DEALING, other_person(errors.BadPerson, None), other_person(errors.BadPerson, "one"), MOVE),
    spec(passing.row_path, with_dials(D4, row=ROW4, goal=STILL4), DIALS, ROW, ROW),
    spec(manydealings.arrangements, with_dials(D4, row=ROW4), DIALS, ROW),
    spec(manydealings.dealings_many, with_dials(D4, row=ROW4), DIALS, ROW),
    spec(manydealings.beginning_many, with_dials(D4, row=ROW4, begin=((1,), (1,))), DIALS, ROW, BEGIN),
    spec(manydealings.all_dealings, with_dials(D4, row=ROW4), DIALS, ROW),
    spec(manydealings.dealing_at, with_dials(D4, row=ROW4, index=1), DIALS, ROW, INDEX),
    spec(manydealings.index_of, with_dials(D4, dealing=DEALT), DIALS, DEALING),
    spec(manydealings.rows_many, with_dials(D4, place=(1,)), DIALS, PLACE),
    spec(balances.is_even, with_dials(D4, dealing=DEALT), DIALS, DEALING),
    spec(balances.balance, with_dials(D4, row=ROW4), DIALS, ROW),
    spec(behind.still, with_dials(D4), DIALS),
    spec(behind.behind, with_dials(D4, first=DEALT, second=STILL4), DIALS, DEALING, DEALING),
    spec(behind.undone, with_dials(D4, dealing=DEALT), DIALS, DEALING),
    spec(behind.shifted, with_dials(D4, dealing=DEALT, place=(1,)), DIALS, DEALING, PLACE),
    spec(behind.sent_on, with_dials(D4, dealing=DEALT, place=(1,)), DIALS, DEALING, PLACE),
    spec(behind.renamed, {"dials": (6,), "other": (2, 3), "names": BY_BOTH, "dealing": STILL6},
         DIALS, DIALS, NAMES, DEALING),
    spec(behind.rounds, with_dials(D4, dealing=DEALT), DIALS, DEALING),
    spec(behind.swaps, with_dials(D4, dealing=DEALT), DIALS, DEALING),
    spec(changes.differ, with_dials(D4, one=DEALT, other=STILL4), DIALS, DEALING, DEALING),
    spec(changes.changes, with_dials(D4, dealing=DEALT, most=3), DIALS, DEALING, MOST),
    spec(changes.path, with_dials(D4, one=DEALT, other=DEALT, most=3), DIALS, DEALING, SAME_ROW, MOST),
    spec(changes.pool, with_dials(D4, dealing=DEALT, most=3), DIALS, DEALING, MOST),
    spec(changes.is_pool, with_dials(D4, row=ROW4, most=4, thing=[DEALT]), DIALS, ROW, MOST, ANY),
    spec(changes.least_most, with_dials(D4, row=ROW4), DIALS, ROW),
    spec(exchanges.is_exchange, with_dials(D4, row=ROW4, thing=STILL4), DIALS, ROW, ANY),
    spec(exchanges.exchange_path, with_dials(D4, one=ROW4, other=STILL4), DIALS, ROW, ROW),
    spec(exchanges.split, with_dials(D4, one=ROW4, other=STILL4), DIALS, ROW, ROW),
    spec(exchanges.is_split, with_dials(D4, one=ROW4, other=STILL4, thing=[(ROW4, STILL4)]), DIALS, ROW, ROW, ANY),
    spec(exchanges.leads, with_dials(D4, dealing=DEALT, row=STILL4), DIALS, DEALING, ROW),
    spec(unlike.is_unlike, with_dials(D22, thing=UNLIKE22), DIALS, ANY),
    spec(unlike.unlike, with_dials(D22), DIALS),
    spec(unlike.missed, with_dials(D4, dealing=DEALT), DIALS, DEALING),
    spec(unlike.is_near, with_dials(D4, move=(0,), thing=((2,), (2,), (3,), (1,))), DIALS, MOVE, ANY),
    spec(unlike.near, with_dials(D4, move=(0,)), DIALS, MOVE),
    spec(weighings.is_weighing, with_dials(D4, thing=(2, (0, 1, 0, 1))), DIALS, ANY),
    spec(weighings.weighings, with_dials(D4, modulus=2), DIALS, MODULUS),
    spec(weighings.weighed, with_dials(D4, weighing=(2, (0, 1, 0, 1)), several=[(1,), (2,)]),
         DIALS, of_dials(errors.BadWeighing, good_weighing), SEVERAL),
    spec(weighings.plain_bar, with_dials(D4), DIALS),
    spec(weighings.square_bar, with_dials(D4), DIALS),
    spec(sides.triples, with_dials(D22, dealing=UNLIKE22), DIALS, UNLIKE),
    spec(sides.side, with_dials(D22, dealing=UNLIKE22, order=(1, 2, 0)), DIALS, UNLIKE, ORDER),
    spec(sides.beside, {"one": (3,), "first": UNLIKE3, "other": D22, "second": UNLIKE22},
         DIALS, of_dials(errors.BadUnlike, good_unlike, "one"),
         BESIDE, of_dials(errors.BadUnlike, good_unlike, "other")),
    spec(sides.are_alike, with_dials(D22, one=UNLIKE22, other=UNLIKE22), DIALS, UNLIKE, UNLIKE),
    spec(sides.likes, with_dials(D22, dealing=UNLIKE22), DIALS, UNLIKE),
    spec(sides.kinds, with_dials(D22), DIALS),
    spec(manyunlike.unlike_dealings, with_dials(D22), DIALS),
    spec(manyunlike.unlike_many, with_dials(D22), DIALS),
    spec(manyunlike.unlike_that, with_dials(D22, known={(0, 0): (0, 0)}), DIALS, of_dials(errors.BadKnown, good_known)),
    spec(manyunlike.nears, with_dials(D4, move=(0,)), DIALS, MOVE),
]

# Arguments with more places than the function takes, the number that TooMany tells, and arguments with just so many.
D11, D9, D8 = (11,), (9,), (8,)
STILL10 = ((0, 0),) * 10
STILL11 = ((0,),) * 11
STILL9 = ((0,),) * 9
STILL8 = ((0,),) * 8
UNLIKE11 = tuple((at,) for at in range(11))
TIMES_ONE9 = tuple((at,) for at in range(9))

BEYOND = [
    (function, with_dials(D11, **{name: STILL11 if value is None else value for name, value in more.items()}), 10,
     with_dials((2, 5), **{name: STILL10 if value is None else value for name, value in more.items()}))
    for function, more in [
        (manydealings.dealings_many, {"row": None}),
        (manydealings.beginning_many, {"row": None, "begin": ()}),
        (manydealings.all_dealings, {"row": None}),
        (manydealings.dealing_at, {"row": None, "index": 0}),
        (manydealings.index_of, {"dealing": None}),
        (balances.balance, {"row": None}),
        (changes.changes, {"dealing": None, "most": 10}),
        (changes.path, {"one": None, "other": None, "most": 10}),
        (changes.pool, {"dealing": None, "most": 10}),
        (changes.is_pool, {"row": None, "most": 10, "thing": None}),
        (changes.least_most, {"row": None}),
    ]
] + [
    (exchanges.exchange_path, with_dials(D9, one=STILL9, other=STILL9), 8, with_dials(D8, one=STILL8, other=STILL8)),
    (exchanges.split, with_dials(D9, one=STILL9, other=STILL9), 8, with_dials(D8, one=STILL8, other=STILL8)),
    (exchanges.leads, with_dials(D9, dealing=STILL9, row=STILL9), 8, with_dials(D8, dealing=STILL8, row=STILL8)),
    (sides.likes, with_dials(D11, dealing=UNLIKE11), 9, with_dials(D9, dealing=TIMES_ONE9)),
    (sides.kinds, with_dials(D9), 8, with_dials((2, 4))),
    (manyunlike.unlike_dealings, with_dials((2, 5)), 9, with_dials((3, 3))),
    (manyunlike.unlike_many, with_dials((2, 5)), 9, with_dials((3, 3))),
    (manyunlike.unlike_that, with_dials((2, 5), known={}), 9, with_dials((3, 3), known={})),
    (manyunlike.nears, with_dials((10,), move=(0,)), 8, with_dials((8,), move=(0,))),
]
