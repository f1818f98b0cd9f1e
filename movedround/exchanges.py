"""From row to row, by exchanges of two moves for two with the same total."""

from movedround.arithmetic import add, add_up, left_over, take_off
from movedround.checks import are_places, check_at_most, check_dealing, check_dials, check_row, is_row_of_moves
from movedround.hands import deal, exchange, exchange_for
from movedround.values import is_ascending, is_listed, is_tuple_of


def is_exchange(dials, row, thing):
    """Whether any value is a row that comes of this one by an exchange."""
    check_dials(dials)
    check_row(dials, row)
    if not is_row_of_moves(dials, thing) or add_up(dials, thing) != add_up(dials, row):
        return False
    return len(left_over(row, thing)) <= 2


def picked(items, mask):
    """The items at the bits of the mask, in their order."""
    return tuple([item for at, item in enumerate(items) if (mask >> at) & 1])


def with_one_bit(mask, many):
    """The masks that have one more of so many bits."""
    return [mask | (1 << at) for at in range(many) if not (mask >> at) & 1]


def with_one_more_each(chains, many):
    """The longest chains by the pairs of masks that have one more bit each than those of these chains."""
    longer = {}
    for mask, other_mask in chains:
        chain = chains[(mask, other_mask)]
        for wider in with_one_bit(mask, many):
            for other_wider in with_one_bit(other_mask, many):
                key = (wider, other_wider)
                if key not in longer or len(chain) > len(longer[key]):
                    longer[key] = chain
    return longer


def longest_chain(dials, some, others):
    """A list, as long as can be, of pairs of masks of the two lists, each with more of them than the one before.

    In each pair both masks pick as many moves, with the same total; the last pair picks all.
    """
    many = len(some)
    totals = [add_up(dials, picked(some, mask)) for mask in range(1 << many)]
    other_totals = [add_up(dials, picked(others, mask)) for mask in range(1 << many)]
    chains = {(0, 0): []}
    for _ in range(many):
        longer = with_one_more_each(chains, many)
        chains = {}
        for mask, other_mask in longer:
            step = [(mask, other_mask)] if totals[mask] == other_totals[other_mask] else []
            chains[(mask, other_mask)] = longer[(mask, other_mask)] + step
    return chains[((1 << many) - 1, (1 << many) - 1)]


def split_of(dials, one, other):
    """A split with as many pairs as can be, of rows that have the same total."""
    some = left_over(one, other)
    others = left_over(other, one)
    # A move that both rows have can always be a pair with itself: two pairs that have it make two again without it.
    pairs = [((move,), (move,)) for move in left_over(one, some)]
    mask = 0
    other_mask = 0
    for wider, other_wider in longest_chain(dials, some, others):
        pairs.append((picked(some, wider - mask), picked(others, other_wider - other_mask)))
        mask = wider
        other_mask = other_wider
    return pairs


def split(dials, one, other):
    """A split of two rows with as many pairs as can be; None if the totals differ."""
    check_dials(dials)
    check_row(dials, one)
    check_row(dials, other)
    check_at_most(dials, 8)
    if add_up(dials, one) != add_up(dials, other):
        return None
    return split_of(dials, one, other)


def is_ascending_moves(dials, thing):
    """Whether it is an ascending tuple of one or more moves."""
    return isinstance(thing, tuple) and len(thing) > 0 and are_places(dials, thing) and is_ascending(thing)


def is_split_pair(dials, thing):
    """Whether it is a pair of ascending tuples of as many moves, with the same total."""
    if not is_tuple_of(thing, 2) or not all([is_ascending_moves(dials, moves) for moves in thing]):
        return False
    return len(thing[0]) == len(thing[1]) and add_up(dials, thing[0]) == add_up(dials, thing[1])


def is_split(dials, one, other, thing):
    """Whether any value is a split of two rows."""
    check_dials(dials)
    check_row(dials, one)
    check_row(dials, other)
    if not is_listed(thing) or not all([is_split_pair(dials, pair) for pair in thing]):
        return False
    all_some = [move for some, _ in thing for move in some]
    all_others = [move for _, others in thing for move in others]
    return tuple(sorted(all_some)) == one and tuple(sorted(all_others)) == other


def replaced(row, removed, wanted):
    """The row with wanted moves in the place of removed ones."""
    return tuple(sorted(left_over(row, removed) + wanted))


def rows_towards(dials, one, other):
    """The rows of a shortest path of exchanges between rows that have the same total."""
    rows = [one]
    for some, others in split_of(dials, one, other):
        moves = list(some)
        # The last move of others comes right by itself.
        for wanted in others[:-1]:
            rest = take_off(dials, add(dials, moves[0], moves[1]), wanted)
            rows.append(replaced(rows[-1], moves[:2], [wanted, rest]))
            moves = [rest] + moves[2:]
    return rows


def exchange_path(dials, one, other):
    """A list of rows, as short as possible, from one to other by exchanges; None if the totals differ."""
    check_dials(dials)
    check_row(dials, one)
    check_row(dials, other)
    check_at_most(dials, 8)
    if add_up(dials, one) != add_up(dials, other):
        return None
    return rows_towards(dials, one, other)


def leads(dials, dealing, row):
    """A list of triples, as short as possible, with which exchanged leads to a dealing with this row.

    None if there is none.
    """
    check_dials(dials)
    check_dealing(dials, dealing)
    check_row(dials, row)
    check_at_most(dials, 8)
    if deal(dials, row) is None:
        return None
    moves = dealing
    found = []
    for goal in rows_towards(dials, tuple(sorted(dealing)), row)[1:]:
        one, other, move = exchange_for(dials, moves, left_over(moves, goal), left_over(goal, moves))
        found.append((one, other, move))
        moves = exchange(dials, moves, one, other, move)
    return found
