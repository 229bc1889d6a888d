"""Judgments of integers and of tuples of them, which other modules share.

Sizes are asked ahead of entries, so that a wrong object is answered soon
however many or however deep its entries are.
"""


def is_integer(thing):
    """Whether thing is an int that is not a bool."""
    return isinstance(thing, int) and not isinstance(thing, bool)


def is_integer_within(thing, low, high):
    """Whether thing is an integer from low to high."""
    return is_integer(thing) and low <= thing <= high


def is_tuple_sized(thing, low, high):
    """Whether thing is a tuple of low to high entries."""
    return isinstance(thing, tuple) and low <= len(thing) <= high


def are_integers(thing, count):
    """Whether thing is a tuple of just so many integers."""
    if not is_tuple_sized(thing, count, count):
        return False
    return all([is_integer(entry) for entry in thing])


def are_indexes(thing, count):
    """Whether thing is an ascending tuple of one or more indexes below count."""
    if not is_tuple_sized(thing, 1, count):
        return False
    if not all([is_integer_within(entry, 0, count - 1) for entry in thing]):
        return False
    return all([thing[at - 1] < thing[at] for at in range(1, len(thing))])
