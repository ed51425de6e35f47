"""What several modules need to tell kinds of things apart [2]."""


def is_whole(thing):
    """Whether the thing is a whole number."""
    # Python counts True and False among the ints; here they are no 1 and no 0.
    return isinstance(thing, int) and not isinstance(thing, bool)


def is_whole_within(thing, low, high):
    """Whether the thing is a whole number from low to high."""
    return is_whole(thing) and low <= thing <= high


def is_tuple_within(thing, low, high):
    """Whether the thing is a tuple of low to high things, whatever these are."""
    return isinstance(thing, tuple) and low <= len(thing) <= high
