"""Counting with places, for arguments that are known to be right."""


def place_count(dials):
    many = 1
    for size in dials:
        many = many * size
    return many


def all_places(dials):
    """The ascending list of all places."""
    found = [()]
    for size in dials:
        found = [begin + (at,) for begin in found for at in range(size)]
    return found


def nothing_of(dials):
    return (0,) * len(dials)


def add(dials, one, other):
    return tuple([(here + there) % size for here, there, size in zip(one, other, dials)])


def take_off(dials, one, other):
    return tuple([(here - there) % size for here, there, size in zip(one, other, dials)])


def opposite(dials, place):
    """Nothing less the place."""
    return take_off(dials, nothing_of(dials), place)


def add_up(dials, several):
    sum_so_far = nothing_of(dials)
    for place in several:
        sum_so_far = add(dials, sum_so_far, place)
    return sum_so_far


def multiply(dials, place, number):
    return tuple([(at * number) % size for at, size in zip(place, dials)])


def all_halves(dials):
    """The places, but nothing, that are nothing two times."""
    nothing = nothing_of(dials)
    return [place for place in all_places(dials) if place != nothing and add(dials, place, place) == nothing]


def reached(dials, moves):
    """The ends, in the order of the persons."""
    return [add(dials, person, move) for person, move in zip(all_places(dials), moves)]


def moves_to(dials, goals):
    """The moves that bring the persons, in their order, to these ends."""
    return tuple([take_off(dials, goal, person) for person, goal in zip(all_places(dials), goals)])


def by_person(dials, moves):
    """The dict from each person to the move."""
    return {person: move for person, move in zip(all_places(dials), moves)}


def left_over(some, others):
    """The list of those of some that others do not make up for, one by one."""
    left = list(some)
    for move in others:
        if move in left:
            left.remove(move)
    return left


def columns_of(lines):
    """The list of the columns, top to bottom, of a square told line by line."""
    return [tuple([line[at] for line in lines]) for at in range(len(lines))]
