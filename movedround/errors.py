"""The errors of the package: MoveError, and all others directly below it."""


class MoveError(ValueError):
    """What this package refuses."""


class BadBegin(MoveError):
    """Not the beginning of a dealing."""


class BadBegun(MoveError):
    """Not a begun dealing."""


class BadBoth(MoveError):
    """Not a dealing both ways."""


class BadBundle(MoveError):
    """Not a bundle."""


class BadClosed(MoveError):
    """Not closed places."""


class BadColumn(MoveError):
    """Not a column."""


class BadColumns(MoveError):
    """Not columns."""


class BadDealing(MoveError):
    """Not a dealing."""


class BadDials(MoveError):
    """Not dials."""


class BadFair(MoveError):
    """Not a fair tour."""


class BadGoals(MoveError):
    """Not goals."""


class BadGroup(MoveError):
    """Not a group."""


class BadHall(MoveError):
    """Not a hall."""


class BadHanding(MoveError):
    """Not a handing by the key."""


class BadIndex(MoveError):
    """Not an index."""


class BadInner(MoveError):
    """Not a mixing of the part."""


class BadKey(MoveError):
    """Not a key."""


class BadKnown(MoveError):
    """Not a dict from persons to moves."""


class BadLine(MoveError):
    """Not a line."""


class BadLines(MoveError):
    """Not lines."""


class BadLot(MoveError):
    """Not a lot."""


class BadMember(MoveError):
    """Not a member of the group."""


class BadMirrored(MoveError):
    """Not a mirrored walk."""


class BadMixing(MoveError):
    """Not a mixing."""


class BadModulus(MoveError):
    """Not a modulus."""


class BadMost(MoveError):
    """Not a number of persons."""


class BadMove(MoveError):
    """Not a move."""


class BadMoves(MoveError):
    """Not a move for each person."""


class BadMutual(MoveError):
    """Not a mutual dealing."""


class BadNames(MoveError):
    """Not a renaming."""


class BadNumber(MoveError):
    """Not a number within the limits."""


class BadOrder(MoveError):
    """Not an order of 0, 1 and 2."""


class BadOther(MoveError):
    """Not another move."""


class BadOuter(MoveError):
    """Not a mixing of the sides."""


class BadPart(MoveError):
    """Not a part."""


class BadParting(MoveError):
    """Not a parting."""


class BadPerson(MoveError):
    """Not such a person."""


class BadPersons(MoveError):
    """Not persons."""


class BadPlace(MoveError):
    """Not a place."""


class BadRoundWalk(MoveError):
    """Not a round walk."""


class BadRounds(MoveError):
    """Not rounds."""


class BadRoute(MoveError):
    """Not a route."""


class BadRow(MoveError):
    """Not a row."""


class BadSecond(MoveError):
    """Not a second row."""


class BadSeveral(MoveError):
    """Not a list of the kind that is asked for."""


class BadSides(MoveError):
    """Not a number of sides."""


class BadSquare(MoveError):
    """Not a square."""


class BadStep(MoveError):
    """Not a step."""


class BadTable(MoveError):
    """Not a table."""


class BadText(MoveError):
    """Not the text of a hall: the line from which on it is none."""

    def __init__(self, line):
        self.line = line


class BadTold(MoveError):
    """Not told moves."""


class BadTour(MoveError):
    """Not a tour."""


class BadTurnings(MoveError):
    """Not turnings."""


class BadUnlike(MoveError):
    """Not an unlike dealing."""


class BadWalk(MoveError):
    """Not a walk."""


class BadWeighing(MoveError):
    """Not a weighing."""


class Clash(MoveError):
    """Another person has the same end."""

    def __init__(self, person):
        self.person = person


class InTheWay(MoveError):
    """A free person stands at an end."""

    def __init__(self, person):
        self.person = person


class IsFree(MoveError):
    """The person holds no move."""

    def __init__(self, person):
        self.person = person


class IsHere(MoveError):
    """Somebody stands there already."""

    def __init__(self, person):
        self.person = person


class NotFree(MoveError):
    """The person holds a move."""

    def __init__(self, person):
        self.person = person


class NotHere(MoveError):
    """Nobody stands there."""

    def __init__(self, person):
        self.person = person


class NotIn(MoveError):
    """Not one of the bundle."""


class NotMates(MoveError):
    """The squares are not mates."""


class NotOneHalf(MoveError):
    """There is not just one half."""


class NothingDone(MoveError):
    """No deed stands."""


class NothingUndone(MoveError):
    """No deed was taken back."""


class TooMany(MoveError):
    """There are more than so many."""

    def __init__(self, most):
        self.most = most
