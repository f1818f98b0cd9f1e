"""Parts of dials, their shifts, and dials that are the same under other names."""

from movedround.arithmetic import add, add_up, all_places, multiply, nothing_of, place_count
from movedround.checks import check_dials, check_several, is_part_of_dials, is_place
from movedround.errors import BadPart
from movedround.values import is_all_different, is_listed, is_tuple_of


def check_part(dials, part):
    if not is_part_of_dials(dials, part):
        raise BadPart("not a part of the dials")


def widened(dials, part, step):
    """The least part with the places of this part and step."""
    found = list(part)
    so_far = step
    while so_far not in part:
        found = found + [add(dials, place, so_far) for place in part]
        so_far = add(dials, so_far, step)
    return tuple(sorted(found))


def part_of(dials, several):
    """The least part with these places."""
    check_dials(dials)
    check_several(dials, several)
    part = (nothing_of(dials),)
    for place in several:
        part = widened(dials, part, place)
    return part


def parts(dials):
    """The list of all parts, smaller ones first, then ascending."""
    check_dials(dials)
    found = [(nothing_of(dials),)]
    at = 0
    while at < len(found):
        for place in all_places(dials):
            wider = widened(dials, found[at], place)
            if wider not in found:
                found.append(wider)
        at += 1
    by_size = sorted([(len(part), part) for part in found])
    return [part for _, part in by_size]


def shifts(dials, part):
    """The ascending list of the tuples that come of the part, one place added to all of it."""
    check_dials(dials)
    check_part(dials, part)
    found = []
    for step in all_places(dials):
        shift = tuple(sorted([add(dials, place, step) for place in part]))
        if shift not in found:
            found.append(shift)
    return sorted(found)


def name_by(dials, images, place):
    """The name of a place, when each dial turned on by one is named as images tells."""
    return add_up(dials, [multiply(dials, image, at) for image, at in zip(images, place)])


def can_be_named(one, other, images):
    """Whether these images of the first dials keep sums and leave all names different."""
    for size, image in zip(one, images):
        if multiply(other, image, size) != nothing_of(other):
            return False
    return is_all_different([name_by(other, images, place) for place in all_places(one[:len(images)])])


def images_from(one, other, images):
    """These images of the first dials and images of all others behind them; None if there are none."""
    if len(images) == len(one):
        return images
    for place in all_places(other):
        longer = images + [place]
        if can_be_named(one, other, longer):
            found = images_from(one, other, longer)
            if found is not None:
                return found
    return None


def renaming(one, other):
    """Names in other for the places of one, such that sums go to sums; None if there are none."""
    check_dials(one)
    check_dials(other)
    if place_count(one) != place_count(other):
        return None
    images = images_from(one, other, [])
    if images is None:
        return None
    return [(place, name_by(other, images, place)) for place in all_places(one)]


def are_names(one, other, thing):
    """Whether it is a list of pairs, a place of one and a place of other, the former all of them, ascending."""
    if not is_listed(thing) or len(thing) != place_count(one):
        return False
    for pair, place in zip(thing, all_places(one)):
        if not is_tuple_of(pair, 2) or not is_place(one, pair[0]) or not is_place(other, pair[1]):
            return False
        if pair[0] != place:
            return False
    return True


def is_renaming(one, other, thing):
    """Whether any value is a renaming from one to other."""
    check_dials(one)
    check_dials(other)
    if not are_names(one, other, thing) or place_count(one) != place_count(other):
        return False
    names = {place: name for place, name in thing}
    if not is_all_different(list(names.values())):
        return False
    for here in all_places(one):
        for there in all_places(one):
            if names[add(one, here, there)] != add(other, names[here], names[there]):
                return False
    return True
