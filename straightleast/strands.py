"""Rows of strands, their counts tables and joinings, and the words that make them."""

from straightleast.checks import are_integers, are_integers_within, check_number, is_sequence_of_all, is_tuple_sized
from straightleast.errors import BadCounts, BadSizes, BadStrands, BadWord, TooMany

MOST_STRANDS = 12
MOST_TIMES = 10 ** 18
MOST_INDEXES = 40
MOST_STRANDS_TO_COUNT = 8
MOST_STRANDS_TO_PART = 6


def is_strands(thing):
    """Whether thing is a tuple of the ends of one to twelve strands."""
    return is_tuple_sized(thing, 1, MOST_STRANDS) and is_sequence_of_all(thing, len(thing))


def check_strands(thing):
    """Raise BadStrands for what is no row of strands."""
    if not is_strands(thing):
        raise BadStrands("strands are a tuple of 0 to n - 1 in some sequence, n from 1 to 12")


def check_both(strands, other):
    """Raise BadStrands for what is no row of strands, BadSizes for rows of unlike numbers."""
    check_strands(strands)
    check_strands(other)
    if len(strands) != len(other):
        raise BadSizes("both rows have as many strands")


def count_meetings(strands):
    """How many pairs of the strands cross."""
    check_strands(strands)
    return len([
        place
        for place in range(len(strands))
        for further in range(place + 1, len(strands))
        if strands[place] > strands[further]
    ])


def counts_table(strands):
    """At (i, j) how many strands begin at i or behind it and end ahead of j."""
    check_strands(strands)
    return counts_of(strands)


def counts_of(strands):
    """The counts table of any tuple of ends."""
    size = len(strands) + 1
    return tuple([
        tuple([len([end for end in strands[place:] if end < limit]) for limit in range(size)])
        for place in range(size)
    ])


def strands_of(counts):
    """The strands whose counts table this is."""
    if not is_counts_sized(counts):
        raise BadCounts("a counts table is a tuple of two to thirteen tuples of as many integers")
    strands = tuple([end_between(row, below) for row, below in zip(counts, counts[1:])])
    if not is_strands(strands) or counts_of(strands) != counts:
        raise BadCounts("these are the counts of no strands")
    return strands


def is_counts_sized(thing):
    """Whether thing is a square tuple of tuples of integers, of the size of some counts table."""
    if not is_tuple_sized(thing, 2, MOST_STRANDS + 1):
        return False
    return all([are_integers(row, len(thing)) for row in thing])


def end_between(row, below):
    """Where a strand ends that is counted in the row and not in the one below, -1 if nowhere."""
    more = [limit for limit in range(len(row)) if row[limit] != below[limit]]
    return min(more, default=0) - 1


def joined(strands, other):
    """The strands that come of both, the second below the first, without any second crossing."""
    check_both(strands, other)
    # Crossing by crossing they are found sooner than by least sums of counts,
    # which have the same result.
    return ends_of(crossed(places_of(strands), first_word(other)))


def places_of(strands):
    """By each place below the strand that ends there."""
    return [strands.index(place) for place in range(len(strands))]


def ends_of(standing):
    """The end of each strand, told which strand stands at each place."""
    return tuple([standing.index(strand) for strand in range(len(standing))])


def crossed(standing, word):
    """Which strand stands at each place, if those at each index and behind it cross, the first time only."""
    found = list(standing)
    for index in word:
        # What has crossed already stands the other way round than it began.
        if found[index] < found[index + 1]:
            found[index], found[index + 1] = found[index + 1], found[index]
    return found


def joined_times(strands, count):
    """So many of the same strands joined."""
    check_strands(strands)
    check_number(count, 1, MOST_TIMES)
    found = strands
    for _ in range(count - 1):
        further = joined(found, strands)
        # Joining only adds crossings, so this comes soon however many are wanted.
        if further == found:
            break
        found = further
    return found


def is_idle(strands):
    """Whether the strands joined with themselves are the same."""
    return joined(strands, strands) == strands


def combed(count, word):
    """The strands that come of so many straight ones by the crossings of the word."""
    check_number(count, 1, MOST_STRANDS)
    check_word(count, word)
    return made_by(count, word)


def check_word(count, thing):
    """Raise BadWord for what is no word for so many strands."""
    if not is_tuple_sized(thing, 0, MOST_INDEXES) or not are_integers_within(thing, 0, count - 2):
        raise BadWord("a word is a tuple of at most forty indexes, from 0 to the number of strands less 2")


def made_by(count, word):
    """The strands that the word makes."""
    return ends_of(crossed(list(range(count)), word))


def word_of(strands):
    """The first of the shortest words that make the strands."""
    check_strands(strands)
    return first_word(strands)


def first_word(strands):
    """This word: again and again the first index at which the strands still have to cross."""
    ends = list(strands)
    word = []
    index = 0
    while index < len(ends) - 1:
        if ends[index] > ends[index + 1]:
            ends[index], ends[index + 1] = ends[index + 1], ends[index]
            word.append(index)
            # What has been exchanged may have to cross with the one ahead.
            index = max(0, index - 1)
        else:
            index += 1
    return tuple(word)


def count_words(strands):
    """How many shortest words make the strands."""
    meetings = count_meetings(strands)
    if len(strands) > MOST_STRANDS_TO_COUNT:
        raise TooMany("words are counted of at most eight strands")
    ways = {strands: 1}
    for _ in range(meetings):
        ways = ways_with_one_crossing_less(ways)
    # Each index of a shortest word takes one crossing away, so by now the
    # straight strands alone are left.
    return sum(list(ways.values()))


def ways_with_one_crossing_less(ways):
    """The strands that are left behind one more index, with how many words lead to each."""
    found = {}
    for strands, count in ways.items():
        for index in range(len(strands) - 1):
            if strands[index] > strands[index + 1]:
                left = exchanged(strands, index, index + 1)
                found[left] = found.get(left, 0) + count
    return found


def exchanged(strands, place, further):
    """The strands with these two ends exchanged."""
    ends = list(strands)
    ends[place], ends[further] = ends[further], ends[place]
    return tuple(ends)


def same_combed(count, word, other):
    """Whether both words make the same strands."""
    check_number(count, 1, MOST_STRANDS)
    check_word(count, word)
    check_word(count, other)
    return made_by(count, word) == made_by(count, other)


def is_below(strands, other):
    """Whether no count of the first is above that of the second."""
    check_both(strands, other)
    return all([
        one <= two
        for row, beside in zip(counts_of(strands), counts_of(other))
        for one, two in zip(row, beside)
    ])


def covered(strands):
    """All strands below these in which just one pair less crosses, ascending."""
    meetings = count_meetings(strands)
    # What is below by one crossing alone differs by one exchange.
    choices = [
        exchanged(strands, place, further)
        for place in range(len(strands))
        for further in range(place + 1, len(strands))
    ]
    return sorted([choice for choice in choices if count_meetings(choice) == meetings - 1])


def rest_of(strands, other):
    """The strands of the fewest crossings which, joined to the first, are the second; or None."""
    check_both(strands, other)
    if len(strands) > MOST_STRANDS_TO_PART:
        raise TooMany("a rest is looked for of at most six strands")
    # Of the fewest crossings none is a second one, so that each strand has to
    # go from its end in the one to its end in the other.
    rest = tuple([other[strand] for strand in places_of(strands)])
    if joined(strands, rest) != other:
        return None
    return rest
