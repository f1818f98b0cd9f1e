"""What kind of value something is: for any value at all, without an error."""


def is_number(thing):
    """Whether it is an int that is not a bool."""
    return isinstance(thing, int) and not isinstance(thing, bool)


def is_between(thing, low, high):
    """Whether it is a number from low to high."""
    return is_number(thing) and low <= thing <= high


def is_listed(thing):
    """Whether it can stand where a list is expected."""
    return isinstance(thing, (list, tuple))


def is_tuple_of(thing, many):
    """Whether it is a tuple of so many items."""
    return isinstance(thing, tuple) and len(thing) == many


def is_ascending(items):
    """Whether no item is less than the one before; the items are of one kind."""
    return all([one <= other for one, other in zip(items, items[1:])])


def is_rising(items):
    """Whether each item is greater than the one before; the items are of one kind."""
    return all([one < other for one, other in zip(items, items[1:])])


def is_all_different(items):
    """Whether no item stands twice; the items are numbers, or tuples of such."""
    return len(set(items)) == len(items)
