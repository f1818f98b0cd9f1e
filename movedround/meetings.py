"""Meetings of all persons and a guest, two by two, on days and in rooms."""

from movedround.arithmetic import add, all_places, nothing_of, place_count, reached
from movedround.checks import are_places, check_at_most, check_dials, is_place
from movedround.errors import BadMutual
from movedround.mutual import is_changing, list_mutuals
from movedround.values import is_all_different, is_listed, is_tuple_of


def list_changes(dials, moves):
    """The pairs (x, y) of those who change places in a mutual dealing, x less than y."""
    return [(person, end) for person, end in zip(all_places(dials), reached(dials, moves)) if person < end]


def meetings_on(dials, pairs, day):
    """The meetings of a day: of the guest, and of each two who change places, both plus the day."""
    found = [(day, day, day, None)]
    for pair in pairs:
        one, other = sorted([add(dials, person, day) for person in pair])
        room = add(dials, add(dials, pair[0], pair[1]), day)
        found.append((day, room, one, other))
    return found


def meetings(dials, dealing):
    """The ascending list of the meetings (day, room, one, other), with None behind all places."""
    check_dials(dials)
    if not is_changing(dials, dealing):
        raise BadMutual("not a mutual dealing")
    pairs = list_changes(dials, dealing)
    # On one day each person is in one meeting: so no two meetings are alike up to their last items, perhaps None.
    return sorted([meeting for day in all_places(dials) for meeting in meetings_on(dials, pairs, day)])


def is_meeting(dials, thing):
    """Whether any value is a day, a room, a person, and a greater one or None."""
    if not is_tuple_of(thing, 4) or not are_places(dials, thing[:3]):
        return False
    return thing[3] is None or (is_place(dials, thing[3]) and thing[2] < thing[3])


def is_plan(dials, thing):
    """Whether any value is a list of meetings in which all meet once, each once on each day and once in each room."""
    check_dials(dials)
    if not is_listed(thing) or not all([is_meeting(dials, each) for each in thing]):
        return False
    many = place_count(dials)
    # With so many meetings nothing is missing in what is all different.
    if 2 * len(thing) != many * (many + 1):
        return False
    if not is_all_different([(day, room) for day, room, _, _ in thing]):
        return False
    if not is_all_different([(one, other) for _, _, one, other in thing]):
        return False
    on_days = [(day, person) for day, _, one, other in thing for person in (one, other)]
    in_rooms = [(room, person) for _, room, one, other in thing for person in (one, other)]
    return is_all_different(on_days) and is_all_different(in_rooms)


def has_strong_sums(dials, moves):
    """Whether in a mutual dealing the sums of the two who change places are all different, and none is nothing."""
    sums = [add(dials, one, other) for one, other in list_changes(dials, moves)]
    return is_all_different(sums) and nothing_of(dials) not in sums


def is_strong(dials, thing):
    """Whether any value is a mutual dealing in which those who change places have unlike sums, none nothing."""
    check_dials(dials)
    return is_changing(dials, thing) and has_strong_sums(dials, thing)


def strongs(dials):
    """The ascending list of all strong dealings."""
    check_dials(dials)
    check_at_most(dials, 13)
    nothing = nothing_of(dials)
    return sorted([moves for moves in list_mutuals(dials, {nothing: nothing}) if has_strong_sums(dials, moves)])
