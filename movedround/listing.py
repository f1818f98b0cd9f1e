"""Moves for one person after another, for arguments that are known to be right.

What a person may take, and the end to which it brings them, is told by a dict from moves to ends for each person.
"""

from movedround.arithmetic import add, add_up, all_places, nothing_of


def with_next(begun, goals, limits):
    """The ways to go on with a begun dealing, a pair (moves, ends).

    goals tells the end of the next person by each move that may be taken, limits how often a move may be taken.
    """
    moves, taken = begun
    return [
        (moves + (move,), taken + (goals[move],))
        for move in goals
        if goals[move] not in taken and moves.count(move) < limits[move]
    ]


def list_dealt(ends_of, row):
    """The list of all ways to deal the row with different ends; ascending, if the moves in each dict are."""
    limits = {move: row.count(move) for move in row}
    begun = [((), ())]
    for goals in ends_of:
        begun = [longer for short in begun for longer in with_next(short, goals, limits)]
    return [moves for moves, _ in begun]


def first_dealt(ends_of, left, taken):
    """The first way to deal what is left with different ends, none of them taken; None if there is none."""
    if not ends_of:
        return ()
    goals = ends_of[0]
    for at, move in enumerate(left):
        if move in goals and move not in left[:at] and goals[move] not in taken:
            rest = first_dealt(ends_of[1:], left[:at] + left[at + 1:], taken + (goals[move],))
            if rest is not None:
                return (move,) + rest
    return None


def list_ends(dials, persons, row):
    """For each of the persons the ascending dict from the moves of the row to their ends."""
    return [{move: add(dials, person, move) for move in row} for person in persons]


def list_dealings(dials, row, known):
    """The ascending list of all dealings with this row in which the persons of known have these moves."""
    if add_up(dials, row) != nothing_of(dials):
        return []
    persons = all_places(dials)
    ends_of = []
    for person, goals in zip(persons, list_ends(dials, persons, row)):
        ends_of.append({move: goals[move] for move in goals if known.get(person, move) == move})
    return list_dealt(ends_of, row)
