"""Mixings of groups: a partner for each member, such that they come to all members."""

from movedround.errors import BadInner, BadMixing, BadOuter, BadPart, BadRow, TooMany
from movedround.groups import check_group, check_member, find_mixed, has_no_order, is_line, is_member, reach
from movedround.listing import first_dealt, list_dealt
from movedround.shades import is_nothing_in_all
from movedround.values import is_all_different, is_ascending, is_between, is_tuple_of


def list_goals(group):
    """For each member the dict from the members behind it to what it and then they come to."""
    return [{other: goal for other, goal in enumerate(line)} for line in group.table]


def are_partners(group, thing):
    """Whether any value is a mixing."""
    if not is_line(thing, len(group.table)):
        return False
    return is_all_different([line[other] for line, other in zip(group.table, thing)])


def check_group_most(group, most):
    if len(group.table) > most:
        raise TooMany(most)


def mixing(group):
    """A mixing; None if there is none."""
    check_group(group)
    if not is_nothing_in_all(group):
        return None
    return first_dealt(list_goals(group), tuple(range(len(group.table))), ())


def is_mixing(group, thing):
    """Whether any value is a mixing."""
    check_group(group)
    return are_partners(group, thing)


def mixings_many(group):
    """How many mixings there are."""
    check_group(group)
    check_group_most(group, 8)
    return len(list_dealt(list_goals(group), tuple(range(len(group.table)))))


def moved_mixing(group, partners, first, last):
    """The mixing in which the partner of a member is what that of first and then the member, and then last come to."""
    check_group(group)
    if not are_partners(group, partners):
        raise BadMixing("not a mixing of the group")
    check_member(group, first)
    check_member(group, last)
    return tuple([group.table[partners[moved]][last] for moved in group.table[first]])


def left_side(group, member, part):
    """The members that the member and then one of the part come to, ascending."""
    return tuple(sorted([group.table[member][inner] for inner in part]))


def right_side(group, member, part):
    """The members that one of the part and then the member come to, ascending."""
    return tuple(sorted([group.table[inner][member] for inner in part]))


def is_two_sided(group, thing):
    """Whether any value is a part of the group whose sides are the same from left and right."""
    if not isinstance(thing, tuple) or not all([is_member(group, member) for member in thing]):
        return False
    # As its own part_from it is ascending, has 0, and has whatever comes of its members.
    if reach(group, thing) != thing:
        return False
    return all([left_side(group, each, thing) == right_side(group, each, thing) for each in range(len(group.table))])


def list_side_names(group, part):
    """The ascending list of the least members of the sides of the part."""
    return [member for member in range(len(group.table)) if left_side(group, member, part)[0] == member]


def is_matched(thing, names):
    """Whether any value is a dict from all these numbers to the same ones, each once."""
    if not isinstance(thing, dict):
        return False
    items = list(thing) + list(thing.values())
    if not all([is_between(item, 0, names[-1]) for item in items]):
        return False
    return sorted(thing) == names and sorted(thing.values()) == names


def is_inner(group, part, thing):
    """Whether any value is a mixing of the part."""
    return is_matched(thing, list(part)) and is_all_different([group.table[each][thing[each]] for each in thing])


def is_outer(group, part, thing):
    """Whether any value is a mixing of the sides of the part."""
    if not is_matched(thing, list_side_names(group, part)):
        return False
    return is_all_different([left_side(group, group.table[name][thing[name]], part) for name in thing])


def joined_mixing(group, part, inner, outer):
    """The mixing in which side a and then b of the part have inner of b and then outer of a as their partner."""
    check_group(group)
    if not is_two_sided(group, part):
        raise BadPart("not a part of the group that has the same sides from left and right")
    if not is_inner(group, part, inner):
        raise BadInner("not a mixing of the part")
    if not is_outer(group, part, outer):
        raise BadOuter("not a mixing of the sides of the part")
    partner_of = {}
    for name in outer:
        for each in part:
            partner_of[group.table[name][each]] = group.table[inner[each]][outer[name]]
    return tuple([partner_of[member] for member in range(len(group.table))])


def is_row_of_members(group, thing):
    """Whether any value is an ascending tuple of as many members as there are."""
    if not is_tuple_of(thing, len(group.table)) or not all([is_member(group, member) for member in thing]):
        return False
    return is_ascending(thing)


def group_dealing(group, row):
    """The members of the row, one for each member, such that they come to all members; None if that cannot be."""
    check_group(group)
    if not is_row_of_members(group, row):
        raise BadRow("not an ascending tuple of as many members as there are")
    check_group_most(group, 8)
    return first_dealt(list_goals(group), row, ())


def barred_row(group):
    """A row that adds up to nothing in a shade and cannot be dealt; None if the group commutes."""
    check_group(group)
    if has_no_order(group):
        return None
    return (0,) * (len(group.table) - 1) + (find_mixed(group)[1],)
