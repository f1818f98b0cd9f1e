"""Like judges, for halls: a hall of the tests' own, which does all deeds again from the first one on."""

import random
import re

from tests.judges import good_lot
from tests.support import good_dials, good_place, is_some_list, own_minus, own_places, own_plus


class Refused(Exception):
    """The name of an error, and the person that it tells."""

    def __init__(self, name, person=None):
        super().__init__(name, person)
        self.name, self.person = name, person


def own_passed(sizes, held, first, second, move):
    """What becomes of the moves held, the takes, and who is left."""
    held, takes = dict(held), []
    taker, other = first, second
    while True:
        losers = [one for one in held if own_plus(sizes, one, held[one]) == own_plus(sizes, taker, move)]
        held[taker] = move
        takes.append((taker, move))
        if not losers:
            return held, takes, other
        move = held.pop(losers[0])
        taker, other = other, losers[0]


class OwnHall:
    """Those who are here with their tracks, and the moves they hold."""

    def __init__(self, sizes):
        self.sizes = sizes
        self.tracks, self.moves = {}, {}
        self.done, self.undone = [], []

    def end(self, person):
        return own_plus(self.sizes, person, self.moves[person])

    def owner(self, place):
        return next((one for one in self.moves if self.end(one) == place), None)

    def here(self):
        return sorted(self.tracks)

    def free(self):
        return sorted(set(self.tracks) - set(self.moves))

    def want_person(self, person, is_free, *others):
        if not good_place(self.sizes, person) or person in others:
            raise Refused("BadPerson")
        if person not in self.tracks:
            raise Refused("NotHere", person)
        if is_free and person in self.moves:
            raise Refused("NotFree", person)
        if not is_free and person not in self.moves:
            raise Refused("IsFree", person)

    def want_move(self, move):
        if not good_place(self.sizes, move):
            raise Refused("BadMove")

    def want_persons(self, persons, name, wrong):
        if not good_lot(self.sizes, persons):
            raise Refused("BadPersons")
        if [one for one in persons if wrong(one)]:
            raise Refused(name, min(one for one in persons if wrong(one)))

    def come(self, persons):
        self.want_persons(persons, "IsHere", lambda one: one in self.tracks)
        self.tracks.update({one: (one,) for one in persons})

    def leave(self, persons):
        self.want_persons(persons, "NotHere", lambda one: one not in self.tracks)
        for one in persons:
            del self.tracks[one]
            self.moves.pop(one, None)

    def hand(self, move, first, second):
        self.want_move(move)
        self.want_person(first, True)
        self.want_person(second, True, first)
        self.moves, takes, _ = own_passed(self.sizes, self.moves, first, second, move)
        return takes

    def take(self, person, move):
        self.want_person(person, True)
        self.want_move(move)
        other = self.owner(own_plus(self.sizes, person, move))
        if other is not None:
            raise Refused("Clash", other)
        self.moves[person] = move

    def give_up(self, persons):
        if not good_lot(self.sizes, persons):
            raise Refused("BadPersons")
        for one in persons:
            self.want_person(one, False)
        for one in persons:
            del self.moves[one]

    def swap(self, one, other):
        self.want_person(one, False)
        self.want_person(other, False, one)
        moves = {**self.moves, one: self.moves[other], other: self.moves[one]}
        ends = {person: own_plus(self.sizes, person, moves[person]) for person in moves}
        for person in (one, other):
            same = sorted(each for each in moves if each != person and ends[each] == ends[person])
            if same:
                raise Refused("Clash", same[0])
        self.moves = moves

    def go(self):
        ends = [self.end(one) for one in self.moves]
        for person in self.free():
            if person in ends:
                raise Refused("InTheWay", person)
        goals = {one: self.end(one) if one in self.moves else one for one in self.tracks}
        self.tracks = {goals[one]: track + (goals[one],) for one, track in self.tracks.items()}
        self.moves = {}

    def do(self, name, *arguments):
        """Does a deed, or undo or redo."""
        if name == "undo":
            if not self.done:
                raise Refused("NothingDone")
            self.undone.append(self.done.pop())
            self.do_all_again()
            return None
        if name == "redo":
            if not self.undone:
                raise Refused("NothingUndone")
            self.done.append(self.undone.pop())
            self.do_all_again()
            return None
        result = getattr(self, name)(*arguments)
        self.done.append((name, *arguments))
        self.undone = []
        return result

    def do_all_again(self):
        self.tracks, self.moves = {}, {}
        for name, *arguments in self.done:
            getattr(self, name)(*arguments)

    def copied(self):
        other = OwnHall(self.sizes)
        other.done, other.undone = list(self.done), list(self.undone)
        other.do_all_again()
        return other

    def followed(self, key):
        """The dict from persons who are here to who follows them."""
        owners = {one: self.owner(own_minus(self.sizes, key, one)) for one in self.tracks}
        return {one: owner for one, owner in owners.items() if owner is not None}


def own_chains(hall, key):
    """The pair of the opened chains and the rounds."""
    followed = hall.followed(key)
    opened, rounds = [], []
    for one in hall.here():
        if one not in followed.values():
            chain = [one]
            while chain[-1] in followed:
                chain.append(followed[chain[-1]])
            opened.append(tuple(chain))
    for one in hall.here():
        if one not in [each for chain in opened + rounds for each in chain]:
            chain = [one]
            while followed[chain[-1]] != one:
                chain.append(followed[chain[-1]])
            rounds.append(tuple(chain))
    return sorted(opened), sorted(rounds)


def drawn_persons(draw, sizes, most=4):
    places = own_places(sizes)
    return tuple(sorted(draw.sample(places, draw.randint(1, min(most, len(places))))))


def drawn_deed(draw, hall):
    """A deed that may be refused, but for the most part is not."""
    sizes, places = hall.sizes, own_places(hall.sizes)
    free, holding = hall.free() or places, sorted(hall.moves) or places
    absent = sorted(set(places) - set(hall.tracks)) or places
    name = draw.choices(("come", "leave", "hand", "take", "give_up", "swap", "go", "undo", "redo"),
                        (3, 1, 6, 4, 2, 3, 1, 2, 2))[0]
    move = draw.choice(places)
    if name == "come":
        return name, tuple(sorted(draw.sample(absent, draw.randint(1, len(absent)))))
    if name == "leave":
        return name, tuple(sorted(draw.sample(hall.here() or places, 1)))
    if name == "hand":
        return name, move, draw.choice(free), draw.choice(free)
    if name == "take":
        return name, draw.choice(free), move
    if name == "give_up":
        return name, tuple(sorted(draw.sample(holding, draw.randint(1, min(2, len(holding))))))
    if name == "swap":
        return name, draw.choice(holding), draw.choice(holding)
    if name in ("go", "undo", "redo"):
        return (name,)
    return name, drawn_persons(draw, sizes)


def wild_deed(draw, sizes):
    """A deed that is refused for the most part."""
    places = own_places(sizes)
    values = places + [None, 0, (True,) * len(sizes), (99,), [0], "0", ()]
    name = draw.choice(("come", "leave", "hand", "take", "give_up", "swap"))
    if name in ("come", "leave", "give_up"):
        wrong = [None, (), [], [places[0]], (places[1], places[0]), (places[0], places[0]), (None,), places[0]]
        return name, draw.choice(wrong + [drawn_persons(draw, sizes) for _ in range(8)])
    return (name, *[draw.choice(values) for _ in range(3 if name == "hand" else 2)])


# ---- handings ----

def own_handing(hall, key, thing):
    """The takers and who is left; None for what is no handing."""
    if not is_some_list(thing):
        return None
    held, takers = dict(hall.moves), []
    for pair in thing:
        if type(pair) is not tuple or len(pair) != 2 or not all(good_place(hall.sizes, one) for one in pair):
            return None
        if pair[0] == pair[1] or not set(pair) <= set(hall.tracks) - set(held):
            return None
        move = own_minus(hall.sizes, own_minus(hall.sizes, key, pair[0]), pair[1])
        held, takes, _ = own_passed(hall.sizes, held, *pair, move)
        takers += [taker for taker, _ in takes]
    free = set(hall.tracks) - set(held)
    return (takers, free.pop()) if len(free) == 1 else None


def own_leavers(hall, key):
    """All who are left by some handing: by trying all."""
    left, met = set(), set()
    waiting = [hall.moves]
    while waiting:
        held = waiting.pop()
        if tuple(sorted(held.items())) in met:
            continue
        met.add(tuple(sorted(held.items())))
        free = sorted(set(hall.tracks) - set(held))
        if len(free) == 1:
            left.add(free[0])
        for first in free:
            for second in free:
                if first != second:
                    move = own_minus(hall.sizes, own_minus(hall.sizes, key, first), second)
                    waiting.append(own_passed(hall.sizes, held, first, second, move)[0])
    return tuple(sorted(left))


# ---- texts ----

NUMBER = "(?:0|[1-9][0-9]?)"
SEVERAL = ("come", "leave", "give_up")


def own_text(sizes, log):
    lines = ["dials " + " ".join(map(str, sizes))]
    for name, *rest in log:
        places = rest[0] if name in SEVERAL else rest
        lines.append(" ".join([name] + [",".join(map(str, place)) for place in places]))
    return "\n".join(lines)


def own_read(text):
    """The hall of the text, or the number of the first line that is wrong."""
    first, *rest = text.split("\n")
    if not re.fullmatch(f"dials(?: {NUMBER}){{1,4}}", first):
        return 1
    sizes = tuple(map(int, first.split()[1:]))
    if not good_dials(sizes):
        return 1
    hall = OwnHall(sizes)
    place = f" {NUMBER}" + f",{NUMBER}" * (len(sizes) - 1)
    forms = {"come": f"(?:{place})+", "leave": f"(?:{place})+", "give_up": f"(?:{place})+", "hand": place * 3,
             "take": place * 2, "swap": place * 2, "go": ""}
    for at, line in enumerate(rest):
        name = line.partition(" ")[0]
        if name not in forms or not re.fullmatch(name + forms[name], line):
            return at + 2
        places = [tuple(map(int, word.split(","))) for word in line.split(" ")[1:]]
        try:
            hall.do(name, *([tuple(places)] if name in SEVERAL else places))
        except Refused:
            return at + 2
    return hall


def drawn_own_hall(draw, sizes, many):
    """A hall of the tests' own behind so many deeds that are drawn."""
    hall = OwnHall(sizes)
    for _ in range(many):
        try:
            hall.do(*drawn_deed(draw, hall))
        except Refused:
            continue
    return hall


def seeded(number):
    return random.Random(number)
