"""Rows of persons in which each one is followed by the next one."""


def row_from(next_of, person):
    """The persons from this one on, each one the next of the one before, none twice."""
    row = [person]
    while row[-1] in next_of and next_of[row[-1]] != person:
        row.append(next_of[row[-1]])
    return tuple(row)


def list_rows(persons, next_of):
    """The pair of the lists of the open rows and of the round ones, in which each of the persons is once.

    The persons are ascending; next_of tells who follows a person, if anybody does, no two the same one. So both lists
    are ascending, and a round row begins with its least person.
    """
    followers = list(next_of.values())
    opened = [row_from(next_of, person) for person in persons if person not in followers]
    met = [person for row in opened for person in row]
    closed = []
    for person in persons:
        if person not in met:
            row = row_from(next_of, person)
            closed.append(row)
            met = met + list(row)
    return opened, closed
