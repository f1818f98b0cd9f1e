"""Shades of groups: what is left of the members where their order does not count."""

from movedround.arithmetic import add, add_up, all_places, nothing_of
from movedround.checks import are_places, is_dials
from movedround.groups import check_group, check_member, come_to, count_turns, find_mixed, is_line
from movedround.values import is_tuple_of


def list_sizes(many):
    """The list of the tuples of sizes with this product."""
    found = [(many,)]
    for size in range(2, many):
        if many % size == 0:
            found = found + [(size,) + rest for rest in list_sizes(many // size)]
    return found


def list_choices(group, dials, part):
    """All ways to choose a member for each dial that, so many times as the dial has settings, comes into the part."""
    found = [()]
    for size in dials:
        fitting = [member for member in range(len(group.table)) if come_to(group, [member] * size) in part]
        found = [begin + (member,) for begin in found for member in fitting]
    return found


def names_by(group, dials, chosen, part):
    """The dict from members to the places that name them, when the dials turned on by one name those chosen."""
    name_of = {}
    for place in all_places(dials):
        here = come_to(group, [member for member, at in zip(chosen, place) for _ in range(at)])
        for member in part:
            name_of[group.table[here][member]] = place
    return name_of


def find_shade(group):
    """A shade of the group."""
    members = range(len(group.table))
    part = find_mixed(group)
    for dials in list_sizes(len(group.table) // len(part)):
        for chosen in list_choices(group, dials, part):
            name_of = names_by(group, dials, chosen, part)
            # As each place names as many members as the part has, all members are named only if no one is so twice.
            if len(name_of) == len(group.table):
                return dials, tuple([name_of[member] for member in members])
    return None


def keeps_sums(group, dials, names):
    """Whether the name of what two members come to is the sum of their names."""
    members = range(len(group.table))
    return all([
        names[group.table[one][other]] == add(dials, names[one], names[other])
        for one in members
        for other in members
    ])


def shade(group):
    """A shade: a pair of dials and of the names of the members."""
    check_group(group)
    return find_shade(group)


def is_shade(group, thing):
    """Whether any value is a shade of the group."""
    check_group(group)
    if not is_tuple_of(thing, 2) or not is_dials(thing[0]):
        return False
    dials, names = thing
    if not is_tuple_of(names, len(group.table)) or not are_places(dials, names) or not keeps_sums(group, dials, names):
        return False
    unnamed = [member for member, name in enumerate(names) if name == nothing_of(dials)]
    return tuple(unnamed) == find_mixed(group) and all([place in names for place in all_places(dials)])


def is_nothing_in_all(group):
    """Whether the names of all members add up to nothing."""
    dials, names = find_shade(group)
    return add_up(dials, names) == nothing_of(dials)


def comes_to_nothing(group):
    """Whether the total of the names of all members is nothing in a shade."""
    check_group(group)
    return is_nothing_in_all(group)


def find_order(group, left, here, goal, dead_ends):
    """The members left, in an order in which they lead from here to the goal; None if there is none.

    dead_ends keeps what was found to lead nowhere.
    """
    if not left:
        return () if here == goal else None
    if (left, here) in dead_ends:
        return None
    for at, member in enumerate(left):
        rest = find_order(group, left[:at] + left[at + 1:], group.table[here][member], goal, dead_ends)
        if rest is not None:
            return (member,) + rest
    dead_ends[(left, here)] = True
    return None


def order_to(group, member):
    """A tuple of all members that come to this one, one after another; None if there is none."""
    check_group(group)
    check_member(group, member)
    dials, names = find_shade(group)
    if add_up(dials, names) != names[member]:
        return None
    return find_order(group, tuple(range(len(group.table))), 0, member, {})


def is_order_to(group, member, thing):
    """Whether any value is a tuple of all members that come to this one."""
    check_group(group)
    check_member(group, member)
    return is_line(thing, len(group.table)) and come_to(group, thing) == member


def heavy(group):
    """The least member whose turns are a multiple of the greatest power of 2 that divides the number of members."""
    check_group(group)
    many = len(group.table)
    if many % 2 == 1:
        return None
    power = 2
    while many % (2 * power) == 0:
        power = 2 * power
    for member in range(many):
        if count_turns(group, member) % power == 0:
            return member
    return None
