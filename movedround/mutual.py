"""Dealings by their rounds, and those in which persons change places two by two."""

from movedround.arithmetic import add, all_places, by_person, moves_to, nothing_of, opposite, take_off
from movedround.checks import are_places, check_at_most, check_dials, is_dealt_unlike
from movedround.errors import BadRounds
from movedround.values import is_listed


def are_rounds(dials, thing):
    """Whether any value is a list of lists, none empty, that have each place once in all."""
    if not is_listed(thing) or not all([are_places(dials, each) and len(each) > 0 for each in thing]):
        return False
    return sorted([place for each in thing for place in each]) == all_places(dials)


def from_rounds(dials, rounds):
    """The dealing in which each person comes to the place behind theirs in their list."""
    check_dials(dials)
    if not are_rounds(dials, rounds):
        raise BadRounds("not a list of lists that have each place once in all")
    goal_of = {}
    for each in rounds:
        for at, person in enumerate(each):
            goal_of[person] = each[(at + 1) % len(each)]
    return moves_to(dials, [goal_of[person] for person in all_places(dials)])


def is_changing(dials, thing):
    """Whether any value is a mutual dealing."""
    if not is_dealt_unlike(dials, thing) or thing[0] != nothing_of(dials):
        return False
    move_of = by_person(dials, thing)
    return all([
        move_of[add(dials, person, move_of[person])] == opposite(dials, move_of[person])
        for person in move_of
    ])


def is_mutual(dials, thing):
    """Whether any value is a mutual dealing."""
    check_dials(dials)
    return is_changing(dials, thing)


def list_mutuals(dials, move_of):
    """The mutual dealings in which the persons of move_of have these moves, and are among themselves."""
    waiting = [person for person in all_places(dials) if person not in move_of]
    if not waiting:
        return [tuple([move_of[person] for person in all_places(dials)])]
    found = []
    taken = list(move_of.values())
    for other in waiting[1:]:
        move = take_off(dials, other, waiting[0])
        # The move back is taken together with this one; with an even number of places somebody is left over.
        if move not in taken:
            longer = {person: move_of[person] for person in move_of}
            longer[waiting[0]] = move
            longer[other] = opposite(dials, move)
            found = found + list_mutuals(dials, longer)
    return found


def mutuals(dials):
    """The ascending list of all mutual dealings."""
    check_dials(dials)
    check_at_most(dials, 13)
    nothing = nothing_of(dials)
    return sorted(list_mutuals(dials, {nothing: nothing}))
