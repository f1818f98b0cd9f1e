"""Like signatures, for the functions from straight on."""

from movedround import apart, bothways, bymoves, errors, fairtours, fullrounds, lifts, lots, meetings, mutual
from movedround import neighbours, roundwalks, straight, swings, walks
from tests.judges import good_both, good_bundle, good_closed, good_fair, good_lot, good_lot_moves, good_lot_row
from tests.judges import good_mirrored, good_mutual, good_order, good_round_walk, good_rounds, good_square, good_told
from tests.judges import good_tour, good_walk, own_halved
from tests.signatures import ANY, BY_BOTH, DIALS, MOVE, NAMES, NUMBER, PLACE, UNLIKE, number_between, of_dials, spec
from tests.signatures import with_dials
from tests.support import good_dealing, good_part, good_place, good_unlike


def places_of(*numbers):
    return tuple((number,) for number in numbers)


PERSON = of_dials(errors.BadPerson, good_place)
BUNDLE = of_dials(errors.BadBundle, good_bundle)
ONE_OF_IT = (errors.NotIn, lambda told, value: good_unlike(told["dials"], value) and value in told["bundle"])
BOTH = of_dials(errors.BadBoth, good_both)
ROUNDS = of_dials(errors.BadRounds, good_rounds)
MUTUAL = of_dials(errors.BadMutual, good_mutual)
TOUR = of_dials(errors.BadTour, good_tour)
WALK = of_dials(errors.BadWalk, good_walk)
MIRRORED = of_dials(errors.BadMirrored, good_mirrored)
HALF_FAIR = (errors.BadFair, lambda told, value: good_fair(own_halved(told["dials"]), value))
ROUND_WALK = of_dials(errors.BadRoundWalk, good_round_walk)
ROUTE = of_dials(errors.BadRoute, lambda sizes, value: good_walk(sizes, value) or good_round_walk(sizes, value))
TOLD = of_dials(errors.BadTold, good_told)
CLOSED = of_dials(errors.BadClosed, good_closed)
LINES = of_dials(errors.BadLines, good_order)
COLUMNS = of_dials(errors.BadColumns, good_order)
SQUARE = of_dials(errors.BadSquare, good_square)
LOT = of_dials(errors.BadLot, good_lot)
LOT_ROW = (errors.BadRow, lambda told, value: good_lot_row(told["dials"], told["lot"], value))
LOT_MOVES = (errors.BadMoves, lambda told, value: good_lot_moves(told["dials"], told["lot"], value))

D5, D6, D7 = (5,), (6,), (7,)
ONCE = places_of(0, 1, 2, 3, 4)
TWICE = places_of(0, 2, 4, 1, 3)
THRICE = places_of(0, 3, 1, 4, 2)
STRONG = places_of(0, 4, 1, 6, 2, 3, 5)
WALK6 = places_of(0, 5, 1, 4, 2, 3)
FAIR3 = places_of(0, 1, 2)
ROUND5 = places_of(0, 4, 1, 2)
LED5 = places_of(4, 1, 3, 0, 2)
TOUR5 = places_of(0, 1, 3, 2, 4)
FAIR5 = places_of(0, 1, 4, 2, 3)
TOLD4 = places_of(1, 2)
ORDER4 = places_of(0, 1, 3, 2)
SQUARE3 = tuple(places_of(at, (at + 1) % 3, (at + 2) % 3) for at in range(3))
TABLES3 = [places_of(0, 1), places_of(1, 2), places_of(2, 0)]
LOT6 = places_of(0, 1, 3, 5)
ROW6 = places_of(0, 0, 2, 2)
SEATING6 = places_of(0, 0, 2, 2)
GUESTS3 = [((day,), (day,), (day,), None) for day in range(3)]
ROUNDS7 = [[(0,)], [(1,), (2,), (4,)], [(3,), (6,), (5,)]]

SPECS = [
    spec(straight.is_straight, with_dials(D5, thing=TWICE), DIALS, ANY),
    spec(straight.straights, with_dials(D5), DIALS),
    spec(straight.multiplied, with_dials(D5, number=2), DIALS, NUMBER),
    spec(straight.seen_from, with_dials(D5, dealing=LED5, person=(1,)), DIALS, UNLIKE, PERSON),
    spec(apart.are_apart, with_dials(D5, one=ONCE, other=TWICE), DIALS, UNLIKE, UNLIKE),
    spec(apart.onward, with_dials(D5, one=ONCE, other=TWICE), DIALS, UNLIKE, UNLIKE),
    spec(apart.is_bundle, with_dials(D5, thing=(ONCE, TWICE)), DIALS, ANY),
    spec(apart.rebundled, with_dials(D5, bundle=(ONCE, TWICE), dealing=TWICE), DIALS, BUNDLE, ONE_OF_IT),
    spec(apart.joins, with_dials(D5, bundle=(ONCE, TWICE)), DIALS, BUNDLE),
    spec(apart.greatest, with_dials(D5), DIALS),
    spec(apart.multiples, with_dials(D5), DIALS),
    spec(bothways.is_both, with_dials(D5, thing=TWICE), DIALS, ANY),
    spec(bothways.thirds, with_dials(D6), DIALS),
    spec(bothways.both, with_dials(D5), DIALS),
    spec(bothways.boths, with_dials(D5), DIALS),
    spec(bothways.quarter, with_dials(D5, dealing=TWICE), DIALS, BOTH),
    spec(mutual.from_rounds, with_dials(D7, rounds=ROUNDS7), DIALS, ROUNDS),
    spec(mutual.is_mutual, with_dials(D7, thing=STRONG), DIALS, ANY),
    spec(mutual.mutuals, with_dials(D7), DIALS),
    spec(meetings.meetings, with_dials(D7, dealing=STRONG), DIALS, MUTUAL),
    spec(meetings.is_plan, with_dials((3,), thing=GUESTS3), DIALS, ANY),
    spec(meetings.is_strong, with_dials(D7, thing=STRONG), DIALS, ANY),
    spec(meetings.strongs, with_dials(D7), DIALS),
    spec(walks.is_tour, with_dials(D5, thing=TOUR5), DIALS, ANY),
    spec(walks.is_walk, with_dials(D6, thing=WALK6), DIALS, ANY),
    spec(walks.steps, with_dials(D5, tour=TOUR5), DIALS, TOUR),
    spec(walks.walk, with_dials(D6), DIALS),
    spec(walks.walks, with_dials(D6), DIALS),
    spec(swings.walked_back, with_dials(D6, walk=WALK6), DIALS, WALK),
    spec(swings.turned_about, with_dials(D6, walk=WALK6), DIALS, WALK),
    spec(swings.swung, with_dials(D6, walk=WALK6), DIALS, WALK),
    spec(swings.renamed_walk, {"dials": D6, "other": (2, 3), "names": BY_BOTH, "walk": WALK6},
         DIALS, DIALS, NAMES, WALK),
    spec(fairtours.is_fair, with_dials(D5, thing=FAIR5), DIALS, ANY),
    spec(fairtours.fair_tour, with_dials(D5), DIALS),
    spec(fairtours.fair_tours, with_dials(D5), DIALS),
    spec(fairtours.fair_many, with_dials(D5), DIALS),
    spec(lifts.halved, with_dials((2, 3)), DIALS),
    spec(lifts.halved_place, with_dials((4, 3), place=(3, 2)), DIALS, PLACE),
    spec(lifts.is_mirrored, with_dials(D6, thing=WALK6), DIALS, ANY),
    spec(lifts.half_tour, with_dials(D6, walk=WALK6), DIALS, MIRRORED),
    spec(lifts.lifts, with_dials(D6, tour=FAIR3), DIALS, HALF_FAIR),
    spec(lifts.mirrored_many, with_dials(D6), DIALS),
    spec(roundwalks.is_round_walk, with_dials(D5, thing=ROUND5), DIALS, ANY),
    spec(roundwalks.round_walk, with_dials(D5), DIALS),
    spec(roundwalks.round_walks, with_dials(D5), DIALS),
    spec(roundwalks.left_out, with_dials(D5, walk=ROUND5), DIALS, ROUND_WALK),
    spec(roundwalks.rotated, with_dials(D5, walk=ROUND5, index=1),
         DIALS, ROUND_WALK, number_between(errors.BadIndex, 0, 3)),
    spec(roundwalks.led, with_dials(D5, route=ROUND5), DIALS, ROUTE),
    spec(roundwalks.route_of, with_dials(D5, dealing=LED5), DIALS, of_dials(errors.BadDealing, good_dealing)),
    spec(bymoves.is_trip, with_dials((4,), told=TOLD4, closed=places_of(1), thing=places_of(2, 1)),
         DIALS, TOLD, CLOSED, ANY),
    spec(bymoves.trip, with_dials((4,), told=TOLD4, closed=places_of(1)), DIALS, TOLD, CLOSED),
    spec(bymoves.trips_many, with_dials((4,), told=TOLD4, closed=places_of(1)), DIALS, TOLD, CLOSED),
    spec(bymoves.stuck_trip, with_dials((4,), told=TOLD4, closed=places_of(2, 3)), DIALS, TOLD, CLOSED),
    spec(bymoves.is_stuck_trip, with_dials((4,), told=TOLD4, closed=places_of(2, 3), thing={(1,): {}}),
         DIALS, TOLD, CLOSED, ANY),
    spec(bymoves.crowded, with_dials((4,), told=places_of(2, 2, 2)), DIALS, TOLD),
    spec(fullrounds.is_full_round, with_dials(D6, one=(1,), other=(3,), thing=places_of(1, 3, 1, 3, 1, 3)),
         DIALS, MOVE, MOVE, ANY),
    spec(fullrounds.full_round, with_dials(D6, one=(1,), other=(3,)), DIALS, MOVE, MOVE),
    spec(fullrounds.full_counts, with_dials(D6, one=(1,), other=(3,)), DIALS, MOVE, MOVE),
    spec(neighbours.sums, with_dials((4,), lines=ORDER4, columns=places_of(2, 1, 0, 3)), DIALS, LINES, COLUMNS),
    spec(neighbours.side_by_side, with_dials((3,), square=SQUARE3), DIALS, SQUARE),
    spec(neighbours.stacked, with_dials((3,), square=SQUARE3), DIALS, SQUARE),
    spec(neighbours.is_neighbourly, with_dials((3,), thing=SQUARE3), DIALS, ANY),
    spec(neighbours.neighbourly, with_dials(D6), DIALS),
    spec(neighbours.tables, with_dials(D5, walk=ROUND5), DIALS, ROUND_WALK),
    spec(neighbours.are_tables, with_dials((3,), thing=TABLES3), DIALS, ANY),
    spec(lots.is_lot, with_dials(D6, thing=LOT6), DIALS, ANY),
    spec(lots.is_lot_row, with_dials(D6, lot=LOT6, thing=ROW6), DIALS, LOT, ANY),
    spec(lots.lot_ends, with_dials(D6, lot=LOT6, moves=SEATING6), DIALS, LOT, LOT_MOVES),
    spec(lots.is_seating, with_dials(D6, lot=LOT6, row=ROW6, thing=SEATING6), DIALS, LOT, LOT_ROW, ANY),
    spec(lots.lot_shifted, with_dials(D6, lot=LOT6, place=(1,)), DIALS, LOT, PLACE),
    spec(lots.lot_parted, with_dials(D6, lot=LOT6, part=places_of(0, 3)), DIALS, LOT,
         of_dials(errors.BadPart, good_part)),
]

# As in signatures: more than the function takes, the number that TooMany tells, and just so many.
SEVENS = places_of(7, 7, 7, 7, 7, 7, 7)
BEYOND = [
    (straight.straights, with_dials((13,)), 12, with_dials((2, 6))),
    (apart.joins, with_dials((9,), bundle=()), 8, with_dials((8,), bundle=())),
    (apart.greatest, with_dials((9,)), 8, with_dials((2, 4))),
    (bothways.boths, with_dials((2, 5)), 9, with_dials((9,))),
    (mutual.mutuals, with_dials((14,)), 13, with_dials((13,))),
    (meetings.strongs, with_dials((15,)), 13, with_dials((13,))),
    (walks.walks, with_dials((9,)), 8, with_dials((8,))),
    (fairtours.fair_tour, with_dials((2, 8)), 12, with_dials((2, 6))),
    (fairtours.fair_tours, with_dials((8,)), 7, with_dials((7,))),
    (fairtours.fair_many, with_dials((9,)), 8, with_dials((8,))),
    (lifts.mirrored_many, with_dials((18,)), 16, with_dials((16,))),
    (roundwalks.round_walks, with_dials((9,)), 8, with_dials((2, 4))),
    (bymoves.trip, with_dials((8,), told=SEVENS + places_of(7), closed=()), 7, with_dials((8,), told=SEVENS, closed=())),
    (bymoves.trips_many, with_dials((8,), told=SEVENS + places_of(7), closed=()), 7,
     with_dials((8,), told=SEVENS, closed=())),
    (bymoves.stuck_trip, with_dials((8,), told=SEVENS, closed=()), 6, with_dials((8,), told=SEVENS[1:], closed=())),
    (bymoves.is_stuck_trip, with_dials((8,), told=SEVENS, closed=(), thing={}), 6,
     with_dials((8,), told=SEVENS[1:], closed=(), thing={})),
]
