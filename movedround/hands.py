"""Moves passed on from hand to hand, for arguments that are known to be right."""

from movedround.arithmetic import add, add_up, all_places, by_person, left_over, moves_to, nothing_of, take_off


def pass_on(dials, begun, first, second, move):
    """The list of takes, and the begun dealing that is left then, when move is passed for two free persons."""
    held = {person: begun[person] for person in begun}
    owners = {add(dials, person, held[person]): person for person in held}
    takes = []
    taker = first
    waiting = second
    while True:
        takes.append((taker, move))
        held[taker] = move
        end = add(dials, taker, move)
        loser = owners.get(end)
        owners[end] = taker
        if loser is None:
            return takes, {person: held[person] for person in sorted(held)}
        move = held[loser]
        del held[loser]
        taker = waiting
        waiting = loser


def finished(dials, held):
    """The dealing of a begun one with just one free person, who gets what brings them to the empty place."""
    taken = [add(dials, person, held[person]) for person in held]
    goals = []
    for person in all_places(dials):
        if person in held:
            goals.append(add(dials, person, held[person]))
        else:
            goals = goals + [place for place in all_places(dials) if place not in taken]
    return moves_to(dials, goals)


def hand_all(dials, persons, moves):
    """The begun dealing when moves, fewer than the persons, are passed one after another, each for two free persons."""
    held = {}
    for move in moves:
        free = [person for person in persons if person not in held]
        held = pass_on(dials, held, free[0], free[1], move)[1]
    return held


def deal(dials, row):
    """A dealing with this row; None if there is none."""
    if add_up(dials, row) != nothing_of(dials):
        return None
    # The first move of the row is not passed: as the total is nothing, it is what the last free person still needs.
    return finished(dials, hand_all(dials, all_places(dials), row[1:]))


def exchange(dials, moves, one, other, move):
    """The dealing behind an exchange between two persons: the move of one plus move, the other's less it."""
    held = by_person(dials, moves)
    passed = add(dials, held[one], move)
    del held[one]
    del held[other]
    return finished(dials, pass_on(dials, held, one, other, passed)[1])


def holder(dials, moves, move, but):
    """The first person who has the move and is not but."""
    for person, own in zip(all_places(dials), moves):
        if own == move and person != but:
            return person
    return None


def exchange_for(dials, moves, removed, wanted):
    """A triple (one, other, move) with which the first wanted move comes in the place of the first removed one.

    What then comes in the place of the second removed one is told by the total.
    """
    one = holder(dials, moves, removed[0], None)
    other = holder(dials, moves, removed[1], one)
    return one, other, take_off(dials, wanted[0], removed[0])


def dealings_towards(dials, row, goal):
    """Dealings from row to goal, a move of goal being brought in by each exchange, the last two by one."""
    moves = deal(dials, row)
    found = [moves]
    removed = left_over(row, goal)
    while removed:
        one, other, move = exchange_for(dials, moves, removed, left_over(goal, moves))
        moves = exchange(dials, moves, one, other, move)
        found.append(moves)
        removed = left_over(moves, goal)
    return found
