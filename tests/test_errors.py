"""The errors: their classes, their attributes, and what they can be made of."""

import unittest

from movedround import errors
from tests.support import anything

PLAIN = """
BadBegin BadBegun BadBoth BadBundle BadClosed BadColumn BadColumns BadDealing BadDials BadFair BadGoals BadGroup
BadHall BadHanding BadIndex BadInner BadKey BadKnown BadLine BadLines BadLot BadMember BadMirrored BadMixing
BadModulus BadMost BadMove BadMoves BadMutual BadNames BadNumber BadOrder BadOther BadOuter BadPart BadParting
BadPerson BadPersons BadPlace BadRoundWalk BadRounds BadRoute BadRow BadSecond BadSeveral BadSides BadSquare
BadStep BadTable BadTold BadTour BadTurnings BadUnlike BadWalk BadWeighing NotIn NotMates NotOneHalf NothingDone
NothingUndone
""".split()
WITH_ATTRIBUTE = {"BadText": "line", "Clash": "person", "InTheWay": "person", "IsFree": "person", "IsHere": "person",
                  "NotFree": "person", "NotHere": "person", "TooMany": "most"}


class Errors(unittest.TestCase):

    def test_each_is_directly_below_move_error(self):
        self.assertEqual(errors.MoveError.__bases__, (ValueError,))
        for name in PLAIN + list(WITH_ATTRIBUTE):
            self.assertEqual(getattr(errors, name).__bases__, (errors.MoveError,), name)

    def test_there_are_no_others(self):
        found = {name for name, thing in vars(errors).items() if isinstance(thing, type)}
        self.assertEqual(found, {"MoveError", *PLAIN, *WITH_ATTRIBUTE})

    def test_the_others_can_be_made_of_any_text(self):
        for name in ["MoveError"] + PLAIN:
            for text in ("", "a text", "two\nlines"):
                made = getattr(errors, name)(text)
                self.assertIsInstance(made, ValueError)
                self.assertEqual(str(made), text)

    def test_an_attribute_holds_what_was_passed(self):
        for name, attribute in WITH_ATTRIBUTE.items():
            for value in anything():
                error = getattr(errors, name)
                self.assertIs(getattr(error(value), attribute), value)
                self.assertIs(getattr(error(**{attribute: value}), attribute), value)
                self.assertEqual(vars(error(value)), {attribute: value})

    def test_they_can_be_raised_and_caught(self):
        for name in PLAIN + list(WITH_ATTRIBUTE):
            for caught in (getattr(errors, name), errors.MoveError, ValueError):
                with self.assertRaises(caught):
                    raise getattr(errors, name)("a text")
