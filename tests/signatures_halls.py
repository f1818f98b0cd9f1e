"""Like signatures, for the functions from squares to texts."""

from movedround import cuts, errors, leaving, mates, onekey, squares, texts
from movedround.hall import Hall
from tests.judges import good_lot, good_lot_row, good_order
from tests.judges_halls import OwnHall, own_handing
from tests.judges_squares import good_parting, own_mates, own_square
from tests.signatures import ANY, DIALS, UNLIKE, of_dials, spec, with_dials
from tests.signatures_walks import BUNDLE, COLUMNS, ONCE, SQUARE, TWICE, places_of
from tests.support import good_dials, good_place

OTHER_LINE = (errors.BadLine, lambda told, value: good_place(told["dials"], value) and value != told.get("one"))
LINE = of_dials(errors.BadLine, good_place)
COLUMN = of_dials(errors.BadColumn, good_place)
PARTING = (errors.BadParting, lambda told, value: good_parting(told["dials"], told["square"], value))
LOT_OF_TWO = of_dials(errors.BadLot, lambda sizes, value: good_lot(sizes, value) and len(value) > 1)
ROW_BUT_ONE = (errors.BadRow, lambda told, value: good_lot_row(told["dials"], told["lot"][1:], value))
ONE_OF_LOT = (errors.BadPerson, lambda told, value: good_place(told["dials"], value) and value in told["lot"])
HALL = (errors.BadHall, lambda told, value: type(value) is Hall)
KEY = (errors.BadKey, lambda told, value: good_place(told["hall"].dials, value))
PERSON = (errors.BadPerson, lambda told, value: good_place(told["hall"].dials, value))
TEXT = (errors.BadText, lambda told, value: value.startswith("dials 2") if type(value) is str else False)


def good_by_key(told, value):
    own = OwnHall(told["hall"].dials)
    for deed in told["hall"].log():
        own.do(*deed)
    return own_handing(own, told["key"], value) is not None


HANDING = (errors.BadHanding, good_by_key)

D3, D4 = (3,), (4,)
PLAIN3 = own_square(D3)
PARTS3 = [places_of(0, 1, 2), places_of(1, 2, 0), places_of(2, 0, 1)]
MATE3 = tuple(places_of(at, (at + 1) % 3, (at + 2) % 3) for at in (0, 2, 1))
assert own_mates(PLAIN3, MATE3) and good_dials(D3) and good_order(D3, PARTS3[1])


def some_hall():
    hall = Hall((5,))
    hall.come(places_of(0, 1, 2, 3, 4))
    hall.take((0,), (1,))
    hall.take((1,), (2,))
    return hall


HANDED = [((2,), (3,)), ((3,), (4,))]

SPECS = [
    spec(squares.is_square, with_dials(D3, thing=PLAIN3), DIALS, ANY),
    spec(squares.square, with_dials(D3), DIALS),
    spec(squares.surplus, with_dials(D3, square=MATE3), DIALS, SQUARE),
    spec(squares.switched, with_dials(D4, square=own_square(D4), one=(0,), other=(2,), column=(1,)),
         DIALS, SQUARE, LINE, OTHER_LINE, COLUMN),
    spec(cuts.is_cut, with_dials(D3, square=PLAIN3, thing=PARTS3[0]), DIALS, SQUARE, ANY),
    spec(cuts.cuts, with_dials(D3, square=PLAIN3), DIALS, SQUARE),
    spec(cuts.surplus_total, with_dials(D3, square=MATE3, columns=places_of(0, 2, 1)), DIALS, SQUARE, COLUMNS),
    spec(mates.is_parting, with_dials(D3, square=PLAIN3, thing=PARTS3), DIALS, SQUARE, ANY),
    spec(mates.parting, with_dials(D3, square=PLAIN3), DIALS, SQUARE),
    spec(mates.are_mates, with_dials(D3, one=PLAIN3, other=MATE3), DIALS, SQUARE, SQUARE),
    spec(mates.mate, with_dials(D3, square=PLAIN3, parting=PARTS3), DIALS, SQUARE, PARTING),
    spec(mates.parting_by, with_dials(D3, one=PLAIN3, other=MATE3), DIALS, SQUARE, SQUARE),
    spec(mates.shift_parting, with_dials(D3, dealing=PARTS3[0]), DIALS, UNLIKE),
    spec(mates.squares_of, with_dials((5,), bundle=(ONCE, TWICE)), DIALS, BUNDLE),
    spec(onekey.is_handing, {"hall": some_hall(), "key": (2,), "thing": HANDED}, HALL, KEY, ANY),
    spec(onekey.left_by, {"hall": some_hall(), "key": (2,), "handing": HANDED}, HALL, KEY, HANDING),
    spec(onekey.often, {"hall": some_hall(), "key": (2,), "handing": HANDED}, HALL, KEY, HANDING),
    spec(onekey.leavers, {"hall": some_hall(), "key": (2,)}, HALL, KEY),
    spec(onekey.handing, {"hall": some_hall(), "key": (2,), "person": (0,)}, HALL, KEY, PERSON),
    spec(leaving.leavable, with_dials(D4, lot=places_of(0, 1, 2), row=places_of(0, 2)),
         DIALS, LOT_OF_TWO, ROW_BUT_ONE),
    spec(leaving.seating_without, with_dials(D4, lot=places_of(0, 1, 2), row=places_of(0, 2), person=(0,)),
         DIALS, LOT_OF_TWO, ROW_BUT_ONE, ONE_OF_LOT),
    spec(texts.hall_text, {"hall": some_hall()}, HALL),
    spec(texts.read_hall, {"text": "dials 2\ncome 0 1"}, TEXT),
]

EIGHTS = tuple((at,) for at in range(8))
BEYOND = [
    (cuts.cuts, with_dials((8,), square=own_square((8,))), 7, with_dials((7,), square=own_square((7,)))),
    (mates.parting, with_dials((7,), square=own_square((7,))), 6, with_dials((2, 3), square=own_square((2, 3)))),
    (leaving.leavable, with_dials((9,), lot=EIGHTS, row=EIGHTS[1:]), 7, with_dials((8,), lot=EIGHTS, row=EIGHTS[1:])),
    (leaving.seating_without, with_dials((9,), lot=EIGHTS, row=EIGHTS[1:], person=(7,)), 7,
     with_dials((9,), lot=EIGHTS[1:], row=EIGHTS[2:], person=(7,))),
]
