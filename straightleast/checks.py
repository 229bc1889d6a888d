"""Judgments of integers and of tuples of them, which other modules share.

Sizes are asked ahead of entries, so that a wrong object is answered soon
however many or however deep its entries are.
"""

from straightleast.errors import BadIndex, BadNumber


def is_integer(thing):
    """Whether thing is an int that is not a bool."""
    return isinstance(thing, int) and not isinstance(thing, bool)


def is_integer_within(thing, low, high):
    """Whether thing is an integer from low to high."""
    return is_integer(thing) and low <= thing <= high


def is_tuple_sized(thing, low, high):
    """Whether thing is a tuple of low to high entries."""
    return isinstance(thing, tuple) and low <= len(thing) <= high


def is_ascending(things):
    """Whether each of these is less than the one behind it."""
    return all([things[at - 1] < things[at] for at in range(1, len(things))])


def are_integers(thing, count):
    """Whether thing is a tuple of just so many integers."""
    if not is_tuple_sized(thing, count, count):
        return False
    return all([is_integer(entry) for entry in thing])


def are_integers_within(thing, low, high):
    """Whether thing, a tuple or a list of few entries, has integers from low to high alone."""
    return all([is_integer_within(entry, low, high) for entry in thing])


def are_indexes(thing, count):
    """Whether thing is an ascending tuple of one or more indexes below count."""
    if not is_tuple_sized(thing, 1, count):
        return False
    return are_integers_within(thing, 0, count - 1) and is_ascending(thing)


def is_sequence_of_all(thing, count):
    """Whether thing is a tuple of 0 to count - 1 in some sequence."""
    if not is_tuple_sized(thing, count, count):
        return False
    return are_integers_within(thing, 0, count - 1) and len(set(thing)) == count


def check_index(thing, low, high):
    """Raise BadIndex for what is no integer from low to high."""
    if not is_integer_within(thing, low, high):
        raise BadIndex("an index is an integer within the bounds of its table")


def check_number(thing, low, high):
    """Raise BadNumber for what is no integer from low to high."""
    if not is_integer_within(thing, low, high):
        raise BadNumber(f"the number is an integer from {low} to {high}")


def check_integer(thing):
    """Raise BadNumber for what is no integer at all."""
    if not is_integer(thing):
        raise BadNumber("the number is an integer")
