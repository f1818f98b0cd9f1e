"""The texts of halls."""

from movedround.checks import is_dials
from movedround.errors import BadText, MoveError
from movedround.hall import Hall, check_hall

WITH_PERSONS = ("come", "leave", "give_up")


def place_text(place):
    return ",".join([str(at) for at in place])


def deed_text(deed):
    """The line for a deed of the log."""
    places = deed[1] if deed[0] in WITH_PERSONS else deed[1:]
    return " ".join([deed[0]] + [place_text(place) for place in places])


def hall_text(hall):
    """The text of the hall."""
    check_hall(hall)
    first = " ".join(["dials"] + [str(size) for size in hall.dials])
    return "\n".join([first] + [deed_text(deed) for deed in hall.log()])


def read_number(word):
    """The number that is written so; None if it is none, or more than any size."""
    for number in range(25):
        if str(number) == word:
            return number
    return None


def read_numbers(words):
    """The tuple of the numbers that are written so, None for what is none."""
    return tuple([read_number(word) for word in words])


def read_dials(line):
    """The hall of the first line; None if there is none."""
    words = line.split(" ")
    sizes = read_numbers(words[1:])
    if words[0] != "dials" or not is_dials(sizes):
        return None
    return Hall(sizes)


def do_with_persons(hall, name, persons):
    """Does one of the deeds that are about several persons."""
    if name == "come":
        hall.come(persons)
    elif name == "leave":
        hall.leave(persons)
    else:
        hall.give_up(persons)


def do_deed(hall, name, places):
    """Does the deed that is called so; whether there is one with so many places."""
    if name in WITH_PERSONS:
        do_with_persons(hall, name, places)
    elif name == "hand" and len(places) == 3:
        hall.hand(places[0], places[1], places[2])
    elif name == "take" and len(places) == 2:
        hall.take(places[0], places[1])
    elif name == "swap" and len(places) == 2:
        hall.swap(places[0], places[1])
    elif name == "go" and len(places) == 0:
        hall.go()
    else:
        return False
    return True


def is_followed(hall, line):
    """Whether the line is the one for a deed that the hall does not refuse; it is done then."""
    words = line.split(" ")
    places = tuple([read_numbers(word.split(",")) for word in words[1:]])
    try:
        return do_deed(hall, words[0], places)
    except MoveError:
        return False


def read_hall(text):
    """The hall whose text it is."""
    if not isinstance(text, str):
        raise BadText(None)
    lines = text.split("\n")
    hall = read_dials(lines[0])
    if hall is None:
        raise BadText(1)
    for at, line in enumerate(lines[1:]):
        if not is_followed(hall, line):
            raise BadText(at + 2)
    return hall
