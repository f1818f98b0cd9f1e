"""Promises 90 and 91: the deeds of a hall, and what is told of it."""

import inspect
import itertools
import math

from movedround import errors
from movedround.errors import MoveError
from movedround.hall import Hall
from tests.judges_halls import OwnHall, Refused, drawn_deed, drawn_own_hall, own_chains, own_passed, seeded, wild_deed
from tests.support import Case, all_dials, anything, is_plain, near_misses, nothing, own_minus, own_places, own_plus
from tests.support import own_total, same

PARAMETERS = {
    "come": "persons", "leave": "persons", "hand": "move first second", "take": "person move", "give_up": "persons",
    "swap": "one other", "go": "", "undo": "", "redo": "", "log": "", "copy": "", "here": "", "free": "", "held": "",
    "ends": "", "empty": "", "owner": "place", "tracks": "", "would": "move first second", "chains": "key",
}


def hall_of(own):
    """The hall behind the deeds of one of the tests' own."""
    hall = Hall(own.sizes)
    for name, *arguments in own.done:
        getattr(hall, name)(*arguments)
    return hall


def by_name(hall, name, arguments):
    return getattr(hall, name)(**dict(zip(PARAMETERS[name].split(), arguments)))


class HallCase(Case):

    def tells(self, hall, own):
        """Whether the hall tells what the one of the tests' own does, each list and dict new."""
        wanted = {
            "here": own.here(), "free": own.free(), "held": {one: own.moves[one] for one in sorted(own.moves)},
            "ends": {one: own.end(one) for one in sorted(own.moves)}, "log": own.done,
            "empty": [place for place in own_places(own.sizes) if own.owner(place) is None],
            "tracks": {one: own.tracks[one] for one in own.here()},
        }
        for name, value in wanted.items():
            found = getattr(hall, name)()
            self.assertTrue(same(found, value), f"{name}: {found!r}, not {value!r}")
            self.assertTrue(is_plain(found))
            found.clear()
            self.assertTrue(same(getattr(hall, name)(), value), f"{name} is not new")
        self.assertEqual(len(hall), len(own.done))
        self.assertEqual(hall.dials, own.sizes)

    def tells_chains(self, hall, own, key):
        found = hall.chains(key)
        self.assertIs(type(found), tuple)
        self.assertTrue(same(found, own_chains(own, key)), (found, own_chains(own, key)))
        self.assertTrue(same(found, hall.chains(key=key)))
        found[0].clear()
        found[1].clear()
        self.assertEqual(hall.chains(key), own_chains(own, key))

    def both_do(self, hall, own, name, *arguments):
        """Does a deed in both halls, by name in the one; whether it is not refused."""
        try:
            wanted = own.do(name, *arguments)
        except Refused as refused:
            self.is_refused(hall, refused, name, *arguments)
            return False
        found = by_name(hall, name, arguments)
        self.assertTrue(same(found, wanted), (name, arguments, found, wanted))
        return True

    def is_refused(self, hall, refused, name, *arguments):
        before = (hall.log(), hall.here(), hall.held(), hall.tracks())
        for call in (lambda: getattr(hall, name)(*arguments), lambda: by_name(hall, name, arguments)):
            try:
                result = call()
            except MoveError as caught:
                self.assertIs(type(caught), getattr(errors, refused.name), (name, arguments))
                if refused.person is not None:
                    self.assertEqual(caught.person, refused.person, (name, arguments))
            else:
                self.fail(f"{name}{arguments!r} told {result!r}, not {refused.name}")
        self.assertEqual((hall.log(), hall.here(), hall.held(), hall.tracks()), before)

    def refuses(self, hall, error, person, name, *arguments):
        self.is_refused(hall, Refused(error, person), name, *arguments)


class Example(HallCase):

    def setUp(self):
        self.hall = Hall((5,))
        self.hall.come(tuple(own_places((5,))))
        self.hall.take((0,), (1,))
        self.hall.take((1,), (2,))

    def test_one_way(self):
        hall = self.hall
        self.assertEqual(hall.ends(), {(0,): (1,), (1,): (3,)})
        self.assertEqual(hall.owner((3,)), (1,))
        self.assertEqual(hall.owner((1,)), (0,))
        self.assertEqual(hall.chains((2,)), ([((2,),), ((3,),), ((4,), (1,), (0,))], []))
        self.assertEqual(hall.would((1,), (2,), (4,)), ([((2,), (1,)), ((4,), (2,)), ((1,), (1,))], (0,)))
        self.assertEqual(hall.hand((1,), (2,), (4,)), [((2,), (1,)), ((4,), (2,)), ((1,), (1,))])
        self.assertEqual(hall.ends(), {(1,): (2,), (2,): (3,), (4,): (1,)})
        self.assertEqual(hall.free(), [(0,), (3,)])
        self.assertEqual(hall.chains((2,)), ([((0,), (1,), (4,), (2,)), ((3,),)], []))

    def test_the_other_way(self):
        self.assertEqual(self.hall.would((1,), (4,), (2,)), ([((4,), (1,))], (2,)))
        self.assertEqual(self.hall.hand((1,), (4,), (2,)), [((4,), (1,))])
        self.assertEqual(self.hall.free(), [(2,), (3,)])

    def test_undo_and_redo(self):
        hall = self.hall
        before = hall.copy()
        hall.hand((1,), (2,), (4,))
        behind = hall.copy()
        hall.undo()
        self.assertEqual((hall == before, hall == behind, len(hall)), (True, False, 3))
        hall.redo()
        self.assertEqual((hall == before, hall == behind, len(hall)), (False, True, 4))
        self.assertEqual(hall.log()[-1], ("hand", (1,), (2,), (4,)))


class Deeds(HallCase):

    def test_halls_of_any_state(self):
        draw = seeded(900)
        for sizes in all_dials(24):
            hall, own = Hall(sizes), OwnHall(sizes)
            self.tells(hall, own)
            for _ in range(45):
                self.both_do(hall, own, *drawn_deed(draw, own))
                if draw.random() < 0.3:
                    self.both_do(hall, own, *wild_deed(draw, sizes))
                self.tells(hall, own)
                self.tells_chains(hall, own, draw.choice(own_places(sizes)))

    def test_small_halls_with_many_deeds(self):
        draw = seeded(901)
        for sizes in ((2,), (3,), (2, 2), (4,), (5,)):
            for _ in range(4):
                hall, own = Hall(sizes), OwnHall(sizes)
                done = 0
                for _ in range(150):
                    done += self.both_do(hall, own, *drawn_deed(draw, own))
                    self.both_do(hall, own, *wild_deed(draw, sizes))
                    self.tells(hall, own)
                    for place in own_places(sizes):
                        self.assertEqual(hall.owner(place), own.owner(place))
                        self.tells_chains(hall, own, place)
                self.assertGreater(done, 25)

    def test_methods_have_their_parameters_and_stand_in_the_class(self):
        for name, parameters in PARAMETERS.items():
            method = vars(Hall)[name]
            found = inspect.signature(method).parameters.values()
            self.assertEqual([each.name for each in found], ["self"] + parameters.split())
            self.assertTrue(all(each.default is inspect.Parameter.empty for each in found))
        for name in ("__eq__", "__len__", "__init__"):
            self.assertIn(name, vars(Hall))

    def test_dials(self):
        for sizes in all_dials(24):
            self.assertEqual(Hall(sizes).dials, sizes)
            self.assertEqual(Hall(dials=sizes).dials, sizes)
        for value in [None, (), (1,), (25,), [5], (True, 2), (5, 5), 5, "5", Hall((2,)), (2, 2, 2, 2, 2), {5: 5}]:
            self.refused(errors.BadDials, Hall, dials=value)

    def test_nobody_one_and_all(self):
        for sizes in all_dials(24):
            hall, own, places = Hall(sizes), OwnHall(sizes), tuple(own_places(sizes))
            for deed in (("go",), ("undo",), ("undo",), ("redo",), ("redo",), ("come", places[:1]), ("go",),
                         ("take", places[0], places[1]), ("go",), ("leave", (places[1],)), ("come", places),
                         ("come", places), ("go",), ("take", places[-1], places[0]), ("leave", places), ("go",)):
                self.both_do(hall, own, *deed)
                self.tells(hall, own)


class Refusals(HallCase):

    def setUp(self):
        self.hall = Hall((5,))
        self.hall.come(((0,), (1,), (2,), (3,)))
        self.hall.take((2,), (1,))
        self.hall.take((3,), (4,))

    def test_persons_that_are_none(self):
        valid = ((0,), (1,))
        good = [((0,),), ((1,),), ((0,), (1,)), ((1,), (2,)), ((0,), (2,)), ((3,),), ((2,),), ((4,),), ((2,), (3,))]
        for persons in [(), [], list(valid), valid[::-1], ((0,), (0,)), ((0,), (0,), (1,)), ((5,),), ((True,),),
                        ((False,), (1,)), (0,), 0, None, "0", {(0,): 1}, ((0, 0),), ([0],), ((0,), None)]:
            for name in ("come", "leave", "give_up"):
                self.refuses(self.hall, "BadPersons", None, name, persons)
        for persons in anything() + list(near_misses(valid)):
            if not any(same(persons, each) for each in good) and type(persons) is not tuple:
                for name in ("come", "leave", "give_up"):
                    self.refuses(self.hall, "BadPersons", None, name, persons)

    def test_the_least_of_them_is_told(self):
        hall = self.hall
        self.refuses(hall, "IsHere", (1,), "come", ((1,), (3,), (4,)))
        self.refuses(hall, "IsHere", (3,), "come", ((3,), (4,)))
        self.refuses(hall, "NotHere", (4,), "leave", ((1,), (3,), (4,)))
        self.refuses(hall, "IsFree", (0,), "give_up", ((0,), (2,), (4,)))
        self.refuses(hall, "NotHere", (4,), "give_up", ((2,), (3,), (4,)))
        hall.leave(((0,),))
        self.refuses(hall, "NotHere", (0,), "give_up", ((0,), (1,), (2,)))
        self.refuses(hall, "IsFree", (1,), "give_up", ((1,), (2,), (4,)))
        self.refuses(hall, "NotHere", (0,), "leave", ((0,), (4,)))

    def test_one_parameter_ahead_of_the_next_one(self):
        hall, wrong = self.hall, (None, (5,), (True,), (False,), [0], 0, (0, 0), "0", (), Hall((5,)))
        for value in wrong:
            self.refuses(hall, "BadMove", None, "hand", value, None, None)
            self.refuses(hall, "BadMove", None, "would", value, (4,), (2,))
            for name in ("hand", "would"):
                self.refuses(hall, "BadPerson", None, name, (0,), value, None)
                self.refuses(hall, "NotHere", (4,), name, (0,), (4,), value)
                self.refuses(hall, "NotFree", (2,), name, (0,), (2,), value)
                self.refuses(hall, "BadPerson", None, name, (0,), (0,), value)
            self.refuses(hall, "BadPerson", None, "take", value, None)
            self.refuses(hall, "NotHere", (4,), "take", (4,), value)
            self.refuses(hall, "NotFree", (2,), "take", (2,), value)
            self.refuses(hall, "BadMove", None, "take", (0,), value)
            self.refuses(hall, "BadPerson", None, "swap", value, (4,))
            self.refuses(hall, "NotHere", (4,), "swap", (4,), value)
            self.refuses(hall, "IsFree", (0,), "swap", (0,), value)
            self.refuses(hall, "BadPerson", None, "swap", (2,), value)
            self.refuses(hall, "BadPlace", None, "owner", value)
            self.refuses(hall, "BadKey", None, "chains", value)
        for name in ("hand", "would"):
            self.refuses(hall, "BadPerson", None, name, (0,), (0,), (0,))
            self.refuses(hall, "NotHere", (4,), name, (0,), (0,), (4,))
            self.refuses(hall, "NotFree", (2,), name, (0,), (0,), (2,))
            self.refuses(hall, "NotFree", (2,), name, (0,), (2,), (2,))
        self.refuses(hall, "BadPerson", None, "swap", (2,), (2,))
        self.refuses(hall, "NotHere", (4,), "swap", (2,), (4,))
        self.refuses(hall, "IsFree", (0,), "swap", (2,), (0,))
        self.refuses(hall, "IsFree", (0,), "swap", (0,), (0,))

    def test_clash_of_take(self):
        hall = self.hall
        # The ends are 3 (of 2) and 2 (of 3).
        self.refuses(hall, "Clash", (2,), "take", (0,), (3,))
        self.refuses(hall, "Clash", (3,), "take", (1,), (1,))
        self.assertIsNone(hall.take((0,), (0,)))
        self.assertEqual(hall.owner((0,)), (0,))
        self.refuses(hall, "Clash", (0,), "take", (1,), (4,))
        hall.give_up(((0,),))
        self.assertIsNone(hall.take((0,), (0,)))
        self.refuses(hall, "NotFree", (0,), "take", (0,), (0,))
        # The own place is no end: who stands there does not bar it, only who goes there.
        hall.give_up(((0,),))
        self.assertIsNone(hall.take((0,), (1,)))
        self.assertEqual(hall.held()[(0,)], (1,))

    def test_clash_of_swap(self):
        hall = Hall((5,))
        hall.come(tuple(own_places((5,))))
        hall.take((0,), (1,))
        hall.take((1,), (2,))
        hall.take((4,), (3,))
        # The ends are 1, 3, 2: by a change 0 would come to 2, which is that of 4, and 1 to 2, too.
        self.refuses(hall, "Clash", (1,), "swap", (0,), (1,))
        self.refuses(hall, "Clash", (0,), "swap", (1,), (0,))
        # 0 would come to 3, which is that of 1, 4 to 0.
        self.refuses(hall, "Clash", (1,), "swap", (0,), (4,))
        # 4 would come to 0; nobody else does: it is what 0, as other, would have that is told.
        self.refuses(hall, "Clash", (1,), "swap", (4,), (0,))
        hall.give_up(((1,),))
        self.assertIsNone(hall.swap((4,), (0,)))
        self.assertEqual(hall.ends(), {(0,): (3,), (4,): (0,)})

    def test_in_the_way(self):
        hall = Hall((5,))
        hall.come(((0,), (1,), (3,), (4,)))
        hall.take((4,), (4,))
        hall.take((0,), (1,))
        self.refuses(hall, "InTheWay", (1,), "go")
        hall.leave(((1,),))
        self.refuses(hall, "InTheWay", (3,), "go")
        hall.take((3,), (2,))
        self.assertIsNone(hall.go())
        self.assertEqual((hall.here(), hall.held()), ([(0,), (1,), (3,)], {}))
        self.assertEqual(hall.tracks(), {(0,): ((3,), (0,)), (1,): ((0,), (1,)), (3,): ((4,), (3,))})

    def test_nothing_done_and_nothing_undone(self):
        hall = Hall((3,))
        self.refuses(hall, "NothingDone", None, "undo")
        self.refuses(hall, "NothingUndone", None, "redo")
        hall.come(((0,),))
        self.refuses(hall, "NothingUndone", None, "redo")
        self.assertIsNone(hall.undo())
        self.refuses(hall, "NothingDone", None, "undo")
        self.assertIsNone(hall.redo())
        self.refuses(hall, "NothingUndone", None, "redo")


class Copies(HallCase):

    def test_undo_and_redo_over_several_deeds(self):
        draw = seeded(902)
        for sizes in ((2,), (5,), (2, 3), (2, 2, 2), (24,)):
            own = drawn_own_hall(draw, sizes, 30)
            hall, states = hall_of(own), []
            while len(hall) > 0:
                states.append((hall.copy(), hall.log(), hall.tracks()))
                hall.undo()
            self.assertEqual(hall, Hall(sizes))
            self.refuses(hall, "NothingDone", None, "undo")
            for state, log, tracks in reversed(states):
                hall.redo()
                self.assertEqual((hall == state, hall.log(), hall.tracks()), (True, log, tracks))
            self.refuses(hall, "NothingUndone", None, "redo")

    def test_a_new_deed_forgets_what_could_be_done_again(self):
        for deed in (("come", ((3,),)), ("leave", ((0,),)), ("hand", (1,), (0,), (1,)), ("take", (0,), (1,)),
                     ("give_up", ((2,),)), ("swap", (2,), (4,)), ("go",)):
            hall = Hall((5,))
            hall.come(((0,), (1,), (2,), (4,)))
            hall.take((2,), (0,))
            hall.take((4,), (4,))
            hall.take((0,), (0,))
            hall.undo()
            other = hall.copy()
            # A deed that is refused forgets nothing.
            self.refuses(hall, "BadPersons", None, "come", ())
            self.refuses(hall, "IsHere", (0,), "come", ((0,),))
            getattr(hall, deed[0])(*deed[1:])
            self.refuses(hall, "NothingUndone", None, "redo")
            hall.undo()
            self.assertEqual(hall, other)
            other.redo()
            self.assertEqual(other.log()[-1], ("take", (0,), (0,)))

    def test_copies_go_on_apart(self):
        draw = seeded(903)
        for sizes in ((2,), (4,), (2, 3), (3, 3), (20,)):
            own = drawn_own_hall(draw, sizes, 25)
            own.undone.clear()
            hall = hall_of(own)
            for _ in range(min(3, len(own.done))):
                self.both_do(hall, own, "undo")
            one, another = hall.copy(), own.copied()
            self.assertEqual(one, hall)
            self.tells(one, another)
            for _ in range(20):
                self.both_do(hall, own, *draw.choice((("redo",), ("undo",), drawn_deed(draw, own))))
                self.tells(one, another)
                self.tells(hall, own)
            for _ in range(20):
                self.both_do(one, another, *draw.choice((("redo",), ("undo",), drawn_deed(draw, another))))
                self.tells(hall, own)
                self.tells(one, another)

    def test_a_copy_has_the_same_to_be_done_again(self):
        hall = Hall((3,))
        hall.come(((0,), (1,)))
        hall.take((0,), (2,))
        hall.undo()
        hall.undo()
        other = hall.copy()
        for each in (hall, other):
            each.redo()
            each.redo()
            self.refuses(each, "NothingUndone", None, "redo")
        self.assertEqual((hall == other, hall.log()), (True, other.log()))

    def test_equal_whatever_was_done(self):
        one, other = Hall((4,)), Hall((4,))
        one.come(((0,), (1,), (3,)))
        one.take((0,), (3,))
        other.come(((3,),))
        other.come(((0,), (1,), (2,)))
        self.assertNotEqual(one, other)
        other.hand((3,), (0,), (3,))
        other.leave(((2,),))
        self.assertEqual(one, other)
        self.assertNotEqual(one.log(), other.log())
        self.assertEqual(one.held(), {(0,): (3,)})
        other.give_up(((0,),))
        self.assertIs(one == other, False)
        other.take((0,), (2,))
        self.assertIs(one != other, True)
        self.assertNotEqual(Hall((4,)), Hall((2, 2)))
        self.assertNotEqual(Hall((4,)), Hall((5,)))
        # Tracks and what can be done again make no difference.
        one.give_up(((0,),))
        other.leave(((0,), (1,), (3,)))
        other.come(((0,), (1,), (3,)))
        other.go()
        other.take((0,), (0,))
        other.undo()
        self.assertIs(one == other, True)

    def test_equal_to_no_value_of_another_kind(self):
        hall = Hall((2,))
        for value in anything():
            if type(value) is not Hall:
                self.assertIs(hall == value, False)
                self.assertIs(value == hall, False)
                self.assertIs(hall != value, True)
        self.assertIs(hall == Hall((2,)), True)

    def test_what_is_passed_and_told_may_be_changed(self):
        hall = Hall((5,))
        hall.come(tuple(own_places((5,))))
        takes = hall.hand((1,), (0,), (1,))
        takes.append(None)
        found, _ = hall.would((2,), (2,), (3,))
        found.clear()
        self.assertEqual(hall.would((2,), (2,), (3,))[0], [((2,), (2,))])
        self.assertEqual(hall.held(), {(0,): (1,)})
        self.assertEqual(hall.log(), [("come", tuple(own_places((5,)))), ("hand", (1,), (0,), (1,))])

    def test_tracks_over_several_rounds(self):
        hall = Hall((6,))
        hall.come(((0,), (3,)))
        hall.go()
        hall.take((0,), (2,))
        hall.go()
        hall.come(((0,),))
        hall.take((2,), (1,))
        hall.take((3,), (1,))
        hall.go()
        self.assertEqual(hall.tracks(), {(0,): ((0,), (0,)), (3,): ((0,), (0,), (2,), (3,)),
                                         (4,): ((3,), (3,), (3,), (4,))})
        hall.leave(((3,),))
        hall.come(((3,),))
        self.assertEqual(hall.tracks()[(3,)], ((3,),))
        hall.undo()
        hall.undo()
        self.assertEqual(hall.tracks()[(3,)], ((0,), (0,), (2,), (3,)))


class Told(HallCase):
    """The facts of 91."""

    def halls(self, seed, many):
        draw = seeded(seed)
        for sizes in all_dials(24):
            for length in many:
                own = drawn_own_hall(draw, sizes, length)
                yield draw, sizes, hall_of(own), own

    def test_every_move_can_be_handed(self):
        for draw, sizes, hall, own in self.halls(910, (6, 12, 20)):
            pairs = list(itertools.permutations(own.free(), 2))
            for first, second in draw.sample(pairs, min(4, len(pairs))):
                for move in draw.sample(own_places(sizes), min(6, math.prod(sizes))):
                    self.look_at(sizes, hall, own, move, first, second)

    def look_at(self, sizes, hall, own, move, first, second):
        held, takes, left = own_passed(sizes, own.moves, first, second, move)
        found = hall.would(move, first, second)
        self.assertTrue(same(found, (takes, left)))
        self.assertTrue(same(hall.would(move=move, first=first, second=second), found))
        other = hall.copy()
        self.assertEqual(other.hand(move, first, second), takes)
        self.assertEqual(other.held(), held)
        self.assertEqual(len(other.held()), len(own.moves) + 1)
        key = own_plus(sizes, first, second, move)
        before, behind = hall.chains(key), other.chains(key)
        own_first, own_second = [next(each for each in before[0] if each[0] == one) for one in (first, second)]
        joined = own_second[::-1] + own_first
        rest = [each for each in before[0] if each not in (own_first, own_second)]
        self.assertEqual(behind, (sorted(rest + [joined]), before[1]))
        self.assertEqual(left, own_second[-1])
        self.assertEqual(len(takes), len(own_second))
        # The other way: another person is left, and one of the two ways is short.
        other_takes, other_left = hall.would(move, second, first)
        self.assertNotEqual(other_left, left)
        self.assertLessEqual(2 * min(len(takes), len(other_takes)), len(own.moves) + 2)

    def test_whoever_tells_the_last_move_can_see_to_it(self):
        for draw, sizes, hall, own in self.halls(911, (10,)):
            if own.moves and len(own.free()) >= 2:
                for person in draw.sample(own.here(), min(3, len(own.here()))):
                    first, second = draw.sample(own.free(), 2)
                    self.assertTrue([move for move in own_places(sizes) if person not in (
                        hall.would(move, first, second)[1], hall.would(move, second, first)[1])])

    def test_chains_behind_each_deed(self):
        """For each key, who follows whom changes as told."""
        for draw, sizes, hall, own in self.halls(912, (8, 16)):
            free, holding = own.free(), sorted(own.moves)
            absent = sorted(set(own_places(sizes)) - set(own.tracks))
            empty = [place for place in own_places(sizes) if own.owner(place) is None]
            deeds = [("come", (one,)) for one in absent[:2]] + [("leave", (one,)) for one in own.here()[:3]]
            deeds += [("give_up", (one,)) for one in holding[:3]]
            deeds += [("take", one, own_minus(sizes, goal, one)) for one in free[:2] for goal in empty[:2]]
            for name, *arguments in deeds:
                other = hall.copy()
                getattr(other, name)(*arguments)
                one = arguments[0][0] if name != "take" else arguments[0]
                for key in draw.sample(own_places(sizes), min(6, math.prod(sizes))):
                    self.assertEqual(self.next_of(other, key), self.changed(own, key, name, one, arguments))

    def next_of(self, hall, key):
        opened, rounds = hall.chains(key)
        found = {one: following for chain in opened for one, following in itertools.pairwise(chain)}
        for chain in rounds:
            found.update(zip(chain, chain[1:] + chain[:1]))
        return found

    def changed(self, own, key, name, one, arguments):
        followed = own.followed(key)
        if name == "give_up":
            return {x: y for x, y in followed.items() if y != one}
        if name == "leave":
            return {x: y for x, y in followed.items() if one not in (x, y)}
        if name == "take":
            last = own_minus(own.sizes, key, own_plus(own.sizes, *arguments))
            return {**followed, **({last: one} if last in own.tracks else {})}
        owner = own.owner(own_minus(own.sizes, key, one))
        return followed if owner is None else {**followed, one: owner}

    def test_a_person_who_follows_themselves(self):
        hall = Hall((5,))
        hall.come(((1,), (2,)))
        hall.take((1,), (2,))
        # The key 4 less 1 is 3, the own end.
        self.assertEqual(hall.chains((4,)), ([((2,),)], [((1,),)]))
        self.assertEqual(hall.chains((0,)), ([((2,), (1,))], []))
        self.assertEqual(Hall((5,)).chains((0,)), ([], []))

    def test_somebody_at_each_place(self):
        draw = seeded(913)
        for sizes in all_dials(24):
            hall = Hall(sizes)
            hall.come(tuple(own_places(sizes)))
            for _ in range(3):
                moves = [draw.choice(own_places(sizes)) for _ in own_places(sizes)[1:]]
                for move in moves:
                    hall.hand(move, *draw.sample(hall.free(), 2))
                    gap = own_minus(sizes, own_total(sizes, hall.free()), own_total(sizes, hall.empty()))
                    self.assertEqual(gap, own_total(sizes, hall.held().values()))
                last, = hall.free()
                wanted = own_minus(sizes, nothing(sizes), own_total(sizes, moves))
                for move in draw.sample(own_places(sizes), min(5, math.prod(sizes))) + [wanted]:
                    if move == wanted:
                        hall.take(last, move)
                        break
                    clash = hall.owner(own_plus(sizes, last, move))
                    self.refuses(hall, "Clash", clash, "take", last, move)
                self.assertEqual(own_total(sizes, hall.held().values()), nothing(sizes))
                self.assertEqual(sorted(hall.held().values()), sorted(moves + [wanted]))
                hall.go()
                self.assertEqual(hall.here(), own_places(sizes))
            self.assertEqual({len(track) for track in hall.tracks().values()}, {4})
