"""All dealings of a row, one beginning after another, for arguments that are known to be right."""

from movedround.arithmetic import add, add_up, all_places, nothing_of


def with_next(begun, goals, limits):
    """The ways to go on with a begun dealing, a pair (moves, ends).

    goals tells the end of the next person by each move that may be taken, limits how often a move may be taken.
    """
    moves, taken = begun
    return [
        (moves + (move,), taken + (goals[move],))
        for move in goals
        if goals[move] not in taken and moves.count(move) < limits[move]
    ]


def list_dealings(dials, row, known):
    """The ascending list of all dealings with this row in which the persons of known have these moves."""
    if add_up(dials, row) != nothing_of(dials):
        return []
    limits = {move: row.count(move) for move in row}
    begun = [((), ())]
    for person in all_places(dials):
        allowed = [move for move in limits if known.get(person, move) == move]
        goals = {move: add(dials, person, move) for move in allowed}
        begun = [longer for short in begun for longer in with_next(short, goals, limits)]
    return [moves for moves, _ in begun]
