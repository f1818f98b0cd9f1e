"""A live hall: persons come and leave, take moves, hand them on, and go."""

from movedround.arithmetic import add, all_places, take_off
from movedround.checks import check_dials, check_move, check_place, is_place
from movedround.errors import BadHall, BadKey, BadPerson, BadPersons, Clash, InTheWay, IsFree, IsHere, NotFree
from movedround.errors import NotHere, NothingDone, NothingUndone
from movedround.following import list_rows
from movedround.hands import pass_on
from movedround.lots import is_lot_of


def check_persons(dials, persons):
    if not is_lot_of(dials, persons):
        raise BadPersons("not an ascending tuple of one or more different places")


def check_person_here(dials, here, person, but):
    """Refuses what is no person, or just the one who is not wanted, and then who is not here."""
    if not is_place(dials, person) or person == but:
        raise BadPerson("not a person, or the same one as before")
    if person not in here:
        raise NotHere(person)


def check_free_one(dials, state, person, but):
    check_person_here(dials, state[0], person, but)
    if person in state[1]:
        raise NotFree(person)


def check_holder(dials, state, person, but):
    check_person_here(dials, state[0], person, but)
    if person not in state[1]:
        raise IsFree(person)


def check_to_hand(dials, state, move, first, second):
    check_move(dials, move)
    check_free_one(dials, state, first, None)
    check_free_one(dials, state, second, first)


def ends_held(dials, held):
    """The dict from those who hold a move to their ends."""
    return {person: add(dials, person, held[person]) for person in held}


def owners_of(dials, held):
    """The dict from the ends to the persons who hold the moves to them."""
    return {add(dials, person, held[person]): person for person in held}


def find_clash(goals, one, other):
    """The least person with the same end as one; if there is nobody, as other; None if there is nobody either."""
    for person in (one, other):
        for another in goals:
            if another != person and goals[another] == goals[person]:
                return another
    return None


class Hall:
    """Persons at some places, some of whom hold a move, with different ends.

    Each deed that stands is kept together with what it left behind: who was here then, and who held which move. So it
    is taken back by forgetting it. What is kept is never changed.
    """

    def __init__(self, dials):
        check_dials(dials)
        self.dials = dials
        self._stands = []
        self._taken_back = []

    def __eq__(self, other):
        return isinstance(other, Hall) and self.dials == other.dials and self._state() == other._state()

    def __len__(self):
        return len(self._stands)

    def _state(self):
        """The pair of the ascending tuple of those who are here and the ascending dict of the moves held."""
        if not self._stands:
            return (), {}
        return self._stands[-1][1], self._stands[-1][2]

    def _do(self, deed, here, held):
        """Keeps a deed and what it leaves behind, and forgets what could be done again."""
        self._stands.append((deed, here, {person: held[person] for person in sorted(held)}))
        self._taken_back = []

    def come(self, persons):
        """These persons are here then, free."""
        check_persons(self.dials, persons)
        here, held = self._state()
        for person in persons:
            if person in here:
                raise IsHere(person)
        self._do(("come", persons), tuple(sorted(here + persons)), held)

    def leave(self, persons):
        """These persons are gone then, with what they held."""
        check_persons(self.dials, persons)
        here, held = self._state()
        for person in persons:
            if person not in here:
                raise NotHere(person)
        staying = tuple([person for person in here if person not in persons])
        self._do(("leave", persons), staying, {person: held[person] for person in held if person in staying})

    def hand(self, move, first, second):
        """Passes the move from hand to hand; the list of takes."""
        here, held = self._state()
        check_to_hand(self.dials, (here, held), move, first, second)
        takes, behind = pass_on(self.dials, held, first, second, move)
        self._do(("hand", move, first, second), here, behind)
        return takes

    def take(self, person, move):
        """The person holds the move then."""
        here, held = self._state()
        check_free_one(self.dials, (here, held), person, None)
        check_move(self.dials, move)
        owners = owners_of(self.dials, held)
        goal = add(self.dials, person, move)
        if goal in owners:
            raise Clash(owners[goal])
        behind = {each: held[each] for each in held}
        behind[person] = move
        self._do(("take", person, move), here, behind)

    def give_up(self, persons):
        """These persons are free then."""
        check_persons(self.dials, persons)
        here, held = self._state()
        for person in persons:
            check_holder(self.dials, (here, held), person, None)
        self._do(("give_up", persons), here, {person: held[person] for person in held if person not in persons})

    def swap(self, one, other):
        """Each of two persons holds the other's move then."""
        here, held = self._state()
        check_holder(self.dials, (here, held), one, None)
        check_holder(self.dials, (here, held), other, one)
        behind = {person: held[person] for person in held}
        behind[one] = held[other]
        behind[other] = held[one]
        person = find_clash(ends_held(self.dials, behind), one, other)
        if person is not None:
            raise Clash(person)
        self._do(("swap", one, other), here, behind)

    def go(self):
        """All who hold a move go to their ends, and all are free then."""
        here, held = self._state()
        goals = ends_held(self.dials, held)
        taken = list(goals.values())
        for person in here:
            if person not in held and person in taken:
                raise InTheWay(person)
        self._do(("go",), tuple(sorted([goals.get(person, person) for person in here])), {})

    def undo(self):
        """Takes back the last deed that stands."""
        if not self._stands:
            raise NothingDone("no deed stands")
        self._taken_back.append(self._stands.pop())

    def redo(self):
        """Does again what was taken back last."""
        if not self._taken_back:
            raise NothingUndone("no deed was taken back")
        self._stands.append(self._taken_back.pop())

    def log(self):
        """The list of the deeds that stand."""
        return [deed for deed, _, _ in self._stands]

    def copy(self):
        """An independent hall with the same deeds, and the same to be done again."""
        other = Hall(self.dials)
        other._stands = list(self._stands)
        other._taken_back = list(self._taken_back)
        return other

    def here(self):
        """The ascending list of those who are here."""
        return list(self._state()[0])

    def free(self):
        """The ascending list of those who are here and hold no move."""
        here, held = self._state()
        return [person for person in here if person not in held]

    def held(self):
        """The dict from those who hold a move to it."""
        held = self._state()[1]
        return {person: held[person] for person in held}

    def ends(self):
        """The dict from those who hold a move to their ends."""
        return ends_held(self.dials, self._state()[1])

    def empty(self):
        """The ascending list of the places that are nobody's end."""
        owners = owners_of(self.dials, self._state()[1])
        return [place for place in all_places(self.dials) if place not in owners]

    def owner(self, place):
        """The person whose end the place is; None if there is none."""
        check_place(self.dials, place)
        return owners_of(self.dials, self._state()[1]).get(place)

    def tracks(self):
        """The dict from those who are here to the places where they have stood since they came, one for each go."""
        tracks = {}
        held = {}
        for deed, here, held_then in self._stands:
            if deed[0] == "go":
                goals = ends_held(self.dials, held)
                tracks = {goals.get(one, one): tracks[one] + (goals.get(one, one),) for one in tracks}
            tracks = {person: tracks.get(person, (person,)) for person in here}
            held = held_then
        return tracks

    def would(self, move, first, second):
        """A pair: the takes that hand would tell now, and the one who would be left free of those whom it is about."""
        here, held = self._state()
        check_to_hand(self.dials, (here, held), move, first, second)
        takes, behind = pass_on(self.dials, held, first, second, move)
        left = [person for person in list(held) + [first, second] if person not in behind]
        return takes, left[0]

    def chains(self, key):
        """The pair of the lists of the opened chains for the key, and of the rounds."""
        if not is_place(self.dials, key):
            raise BadKey("not a place")
        here, held = self._state()
        owners = owners_of(self.dials, held)
        goals = {person: take_off(self.dials, key, person) for person in here}
        return list_rows(here, {person: owners[goals[person]] for person in here if goals[person] in owners})


def check_hall(hall):
    if not isinstance(hall, Hall):
        raise BadHall("not a hall")
