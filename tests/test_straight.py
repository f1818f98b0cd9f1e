"""Promise 44: straight dealings, multiplied ones, and what is seen from a person."""

import itertools
import math
import random

from movedround import errors
from movedround.behind import sent_on, shifted
from movedround.straight import is_straight, multiplied, seen_from, straights
from movedround.unlike import unlike
from tests.judges import good_straight, own_times, prime_power_of
from tests.support import Case, all_dials, anything, good_unlike, near_misses, nothing, own_minus, own_places
from tests.support import own_plus, own_unlike


def own_multiplied(sizes, number):
    return tuple(own_times(sizes, place, number) for place in own_places(sizes))


def own_straights(sizes):
    """By trying all moves for the persons who stand one on from nothing at a dial."""
    found = []
    for images in itertools.product(own_places(sizes), repeat=len(sizes)):
        moves = tuple(own_plus(sizes, nothing(sizes), *[own_times(sizes, image, at) for image, at in zip(images, x)])
                      for x in own_places(sizes))
        if good_straight(sizes, moves):
            found.append(moves)
    return sorted(found)


class Straight(Case):

    def test_examples(self):
        for sizes, zero, many in (((7,), 19, 5), ((9,), 225, 3), ((2, 2, 2), 48, 48)):
            place = nothing(sizes)
            own = [moves for moves in own_unlike(sizes) if moves[0] == place]
            self.assertEqual(len(own), zero)
            found = self.told(straights, dials=sizes)
            self.assertEqual(len(found), many)
            self.assertEqual(found, [moves for moves in own if good_straight(sizes, moves)])
        self.assertEqual(straights((7,)), sorted(own_multiplied((7,), number) for number in range(1, 6)))
        self.assertEqual(straights((9,)), sorted(own_multiplied((9,), number) for number in (1, 4, 7)))
        self.assertEqual(straights((2, 2, 2)), [moves for moves in own_unlike((2, 2, 2)) if moves[0] == (0, 0, 0)])

    def test_all_straight_ones_of_few_places(self):
        for sizes in all_dials(9):
            own = [moves for moves in own_unlike(sizes) if good_straight(sizes, moves)]
            self.assertEqual(self.told(straights, dials=sizes), own)

    def test_all_straight_ones_of_up_to_12_places(self):
        for sizes in all_dials(12):
            if math.prod(sizes) > 8:
                self.assertEqual(self.told(straights, dials=sizes), own_straights(sizes), sizes)

    def test_straight_exactly_if_sums_go_to_sums(self):
        draw = random.Random(200)
        for sizes in all_dials(9):
            for moves in draw.sample(own_unlike(sizes), min(40, len(own_unlike(sizes)))):
                self.assertIs(self.told(is_straight, dials=sizes, thing=moves), good_straight(sizes, moves))
            for moves in straights(sizes):
                self.assertIs(is_straight(sizes, moves), True)
        for sizes in all_dials(24):
            moves = unlike(sizes)
            if moves is not None:
                self.assertIs(is_straight(sizes, moves), good_straight(sizes, moves))
            # Sums go to sums here as well, but this is no unlike dealing.
            self.assertIs(is_straight(sizes, (nothing(sizes),) * math.prod(sizes)), False)

    def test_any_value_is_judged_as_described(self):
        for sizes, valid in (((5,), own_multiplied((5,), 2)), ((2, 2), straights((2, 2))[0]),
                             ((3,), own_multiplied((3,), 1))):
            for thing in anything() + list(near_misses(valid)):
                self.assertIs(self.told(is_straight, dials=sizes, thing=thing), good_straight(sizes, thing), thing)

    def test_too_many(self):
        for sizes in ((13,), (14,), (2, 7), (2, 2, 2, 2), (24,)):
            self.too_many(12, straights, dials=sizes)
        self.refused(errors.BadDials, straights, dials=(25,))


class Multiplied(Case):

    def test_it_is_a_dealing_exactly_if_no_prime_factor_is_in_common(self):
        for sizes in all_dials(24):
            n = math.prod(sizes)
            for number in [*range(-26, 27), -999999999, 999999999, -999999998, 999999998]:
                found = multiplied(sizes, number)
                expected = math.gcd(number, n) == 1 and math.gcd(number + 1, n) == 1
                self.assertEqual(found is not None, expected, (sizes, number))
                if found is not None:
                    self.assertEqual(found, own_multiplied(sizes, number))
                    self.assertTrue(good_unlike(sizes, found))

    def test_ends_of_the_numbers(self):
        for sizes in ((5,), (7,), (3, 7), (2, 2)):
            for number in (-999999999, 999999999):
                self.told(multiplied, dials=sizes, number=number)
            for number in (-1000000000, 1000000000, True, False, None, "1", (1,), [1], 10 ** 30, {}):
                self.refused(errors.BadNumber, multiplied, dials=sizes, number=number)


def some_unlike(draw, sizes):
    if math.prod(sizes) <= 9:
        return draw.sample(own_unlike(sizes), min(25, len(own_unlike(sizes))))
    moves = unlike(sizes)
    return [] if moves is None else [moves, shifted(sizes, moves, draw.choice(own_places(sizes)))]


class SeenFrom(Case):

    def test_each_place_from_each_person(self):
        draw = random.Random(201)
        for sizes in all_dials(24):
            for moves in some_unlike(draw, sizes):
                move_of = dict(zip(own_places(sizes), moves))
                for person in own_places(sizes):
                    own = tuple(own_minus(sizes, move_of[own_plus(sizes, person, x)], move_of[person])
                                for x in own_places(sizes))
                    self.assertEqual(seen_from(sizes, moves, person), own)
                    self.assertTrue(good_unlike(sizes, own))
                    self.assertEqual(own[0], nothing(sizes))
                self.told(seen_from, dials=sizes, dealing=moves, person=draw.choice(own_places(sizes)))

    def test_how_many_different_ones(self):
        draw = random.Random(202)
        for sizes in all_dials(24):
            for moves in some_unlike(draw, sizes):
                many = len({seen_from(sizes, moves, person) for person in own_places(sizes)})
                self.assertEqual(math.prod(sizes) % many, 0)
                back = own_minus(sizes, nothing(sizes), moves[0])
                self.assertEqual(many == 1, good_straight(sizes, sent_on(sizes, moves, back)))
        for sizes in all_dials(12):
            for moves in straights(sizes)[:5]:
                for place in own_places(sizes):
                    sent = sent_on(sizes, moves, place)
                    self.assertEqual({seen_from(sizes, sent, person) for person in own_places(sizes)}, {moves})

    def test_powers_of_a_prime(self):
        for sizes in all_dials(9):
            prime = prime_power_of(math.prod(sizes))
            if prime is not None:
                zero = [moves for moves in own_unlike(sizes) if moves[0] == nothing(sizes)]
                self.assertEqual((len(zero) - len(straights(sizes))) % prime, 0, sizes)

    def test_wrong_arguments(self):
        once = own_multiplied((5,), 1)
        for person in ((5,), (-1,), (True,), (0, 0), [0], 0, None, "0", {}, ()):
            self.refused(errors.BadPerson, seen_from, dials=(5,), dealing=once, person=person)
        for moves in (((0,),) * 5, list(once), None, once[:4], once[:1] + ((True,),) + once[2:]):
            self.refused(errors.BadUnlike, seen_from, dials=(5,), dealing=moves, person=None)
