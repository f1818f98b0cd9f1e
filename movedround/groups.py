"""Groups: what members come to, one after another, where the order may count."""

from movedround.arithmetic import add, all_places
from movedround.checks import check_at_most, check_dials
from movedround.errors import BadGroup, BadMember, BadSeveral, BadSides, BadTable, BadTurnings, TooMany
from movedround.values import is_all_different, is_between, is_listed, is_number, is_tuple_of


def is_line(thing, many):
    """Whether it is a tuple of so many different numbers below many."""
    return is_tuple_of(thing, many) and all([is_between(at, 0, many - 1) for at in thing]) and is_all_different(thing)


def has_no_brackets(table):
    """Whether it makes no difference which two of three are taken first."""
    members = range(len(table))
    return all([
        table[table[one][other]][third] == table[one][table[other][third]]
        for one in members
        for other in members
        for third in members
    ])


def is_table(thing):
    """Whether any value is the table of a group."""
    if not isinstance(thing, tuple) or not 2 <= len(thing) <= 12:
        return False
    many = len(thing)
    if not all([is_line(line, many) for line in thing]):
        return False
    members = tuple(range(many))
    return thing[0] == members and tuple([line[0] for line in thing]) == members and has_no_brackets(thing)


class Group:
    """Members, which are numbers from 0 on, and a table that tells what one and then another one come to."""

    def __init__(self, table):
        if not is_table(table):
            raise BadTable("not the table of a group")
        self.table = table

    def __eq__(self, other):
        return isinstance(other, Group) and self.table == other.table


def check_group(group):
    if not isinstance(group, Group):
        raise BadGroup("not a group")


def is_member(group, thing):
    return is_between(thing, 0, len(group.table) - 1)


def check_member(group, member):
    if not is_member(group, member):
        raise BadMember("not a member of the group")


def check_members(group, several):
    if not is_listed(several) or not all([is_member(group, item) for item in several]):
        raise BadSeveral("not a list of members of the group")


def come_to(group, several):
    """What these members come to, one after another."""
    here = 0
    for member in several:
        here = group.table[here][member]
    return here


def turn_back(group, member):
    """The member with which it comes to 0."""
    return group.table[member].index(0)


def count_turns(group, member):
    """The least number from 1 on, so many times which the member comes to 0."""
    number = 1
    here = member
    while here != 0:
        here = group.table[here][member]
        number += 1
    return number


def has_no_order(group):
    """Whether the order of two members never counts."""
    columns = tuple([tuple([line[at] for line in group.table]) for at in range(len(group.table))])
    return group.table == columns


def after(group, several):
    """What the members come to one after another, 0 if there are none."""
    check_group(group)
    check_members(group, several)
    return come_to(group, several)


def back(group, member):
    """The member with which it comes to 0."""
    check_group(group)
    check_member(group, member)
    return turn_back(group, member)


def turns(group, member):
    """The least number from 1 on, so many of which one after another come to 0."""
    check_group(group)
    check_member(group, member)
    return count_turns(group, member)


def commutes(group):
    """Whether each two members come to the same in both orders."""
    check_group(group)
    return has_no_order(group)


def group_of(dials):
    """The group of the indexes of the places, which come to their sum."""
    check_dials(dials)
    check_at_most(dials, 12)
    index_of = {place: at for at, place in enumerate(all_places(dials))}
    return Group(tuple([tuple([index_of[add(dials, one, other)] for other in index_of]) for one in index_of]))


def group_of_tuples(several):
    """The group of these tuples of corners, indexed in their order; the first one leaves each corner in its place."""
    index_of = {turning: at for at, turning in enumerate(several)}
    return Group(tuple([tuple([index_of[one_then(one, other)] for other in several]) for one in several]))


def one_then(one, other):
    """The tuple that brings each number to where other brings the one to which it comes by one."""
    return tuple([other[at] for at in one])


def polygon(sides):
    """The group of the turns of a polygon, and behind them those that turn it over."""
    if not is_between(sides, 3, 6):
        raise BadSides("not a number from 3 to 6")
    corners = range(sides)
    turned_on = [tuple([(corner + by) % sides for corner in corners]) for by in corners]
    turned_over = [tuple([(by - corner) % sides for corner in corners]) for by in corners]
    return group_of_tuples(turned_on + turned_over)


def is_turning(thing, many):
    """Whether any value is a tuple with the numbers below many in some order."""
    return is_tuple_of(thing, many) and all([is_number(at) for at in thing]) and sorted(thing) == list(range(many))


def are_turnings(thing):
    """Whether any value is a list of turnings of the same numbers, not all of them ascending."""
    if not is_listed(thing) or len(thing) == 0 or not isinstance(thing[0], tuple):
        return False
    many = len(thing[0])
    if not 2 <= many <= 8 or not all([is_turning(item, many) for item in thing]):
        return False
    return any([item != tuple(range(many)) for item in thing])


def group_from(turnings):
    """The group of all tuples that come of these, one after another, indexed in ascending order."""
    if not are_turnings(turnings):
        raise BadTurnings("not a list of tuples with the numbers from 0 to m - 1 in some order")
    found = [tuple(range(len(turnings[0])))]
    at = 0
    while at < len(found):
        for turning in turnings:
            following = one_then(found[at], turning)
            if following not in found:
                found.append(following)
        if len(found) > 12:
            raise TooMany(12)
        at += 1
    return group_of_tuples(sorted(found))


def reach(group, several):
    """The ascending tuple of all members that come of several, 0 among them."""
    found = [0]
    at = 0
    while at < len(found):
        for member in several:
            following = group.table[found[at]][member]
            if following not in found:
                found.append(following)
        at += 1
    return tuple(sorted(found))


def find_mixed(group):
    """The members that come of what is left where one and another one are taken in the other order."""
    members = range(len(group.table))
    return reach(group, [
        come_to(group, [turn_back(group, one), turn_back(group, other), one, other])
        for one in members
        for other in members
    ])


def part_from(group, several):
    """The ascending tuple of all members that come of several, 0 among them."""
    check_group(group)
    check_members(group, several)
    return reach(group, several)


def mixed_part(group):
    """The members that come of back of a, back of b, a and b, for all members a and b."""
    check_group(group)
    return find_mixed(group)
