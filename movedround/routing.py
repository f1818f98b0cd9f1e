"""Routes from place to place, for arguments that are known to be right."""

from movedround.arithmetic import all_places, nothing_of, opposite, take_off

NO_LIMIT = 999999999


def list_steps(dials, route):
    """The places that bring each place of a route to the next one."""
    return [take_off(dials, there, here) for here, there in zip(route, route[1:])]


def kinds_alone(dials):
    """The dict from each place but nothing to itself: the steps of walks, each of a kind of its own."""
    return {place: place for place in all_places(dials)[1:]}


def kinds_by_twos(dials):
    """The dict from each place but nothing to the lesser of it and nothing less it: the steps of fair tours."""
    return {place: min(place, opposite(dials, place)) for place in all_places(dials)[1:]}


def count_each(items):
    """The dict from each item to how often it stands there."""
    return {item: items.count(item) for item in items}


class Search:
    """A search for routes from nothing, place by place in ascending order, no place twice.

    kind_of tells the kind of each step; a route of the length asked has at most as many steps of a kind as places are
    of it. No more routes than most are looked for.
    """

    def __init__(self, dials, length, kind_of, most):
        self.dials = dials
        self.length = length
        self.kind_of = kind_of
        self.left = count_each(list(kind_of.values()))
        self.most = most
        self.found = []

    def go_on(self, route):
        """Finds the routes that begin so."""
        if len(route) == self.length:
            self.found.append(route)
            return
        for place in all_places(self.dials):
            if place not in route and len(self.found) < self.most:
                kind = self.kind_of[take_off(self.dials, place, route[-1])]
                if self.left[kind] > 0:
                    self.left[kind] -= 1
                    self.go_on(route + (place,))
                    self.left[kind] += 1


def first_routes(dials, length, kind_of, most):
    """The ascending list of the first routes of this length, at most so many."""
    search = Search(dials, length, kind_of, most)
    search.go_on((nothing_of(dials),))
    return search.found


def all_routes(dials, length, kind_of):
    """The ascending list of all routes of this length."""
    return first_routes(dials, length, kind_of, NO_LIMIT)


def first_route(dials, length, kind_of):
    """The first route of this length; None if there is none."""
    found = first_routes(dials, length, kind_of, 1)
    return found[0] if found else None
