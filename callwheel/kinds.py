"""What several modules need to tell kinds of things apart [2]."""


def is_whole(thing):
    """Whether the thing is a whole number."""
    # Python counts True and False among the ints; here they are no 1 and no 0.
    return isinstance(thing, int) and not isinstance(thing, bool)


def is_whole_within(thing, low, high):
    """Whether the thing is a whole number from low to high."""
    return is_whole(thing) and low <= thing <= high


def is_tuple_within(thing, low, high):
    """Whether the thing is a tuple of low to high things, whatever these are."""
    return isinstance(thing, tuple) and low <= len(thing) <= high


def is_same(told, thing):
    """Whether any thing is the same as what is told, of whole numbers, texts and tuples of these."""
    if isinstance(told, tuple):
        if not isinstance(thing, tuple) or len(thing) != len(told):
            return False
        return all(is_same(part, other) for part, other in zip(told, thing))
    # Python has True equal to 1 and False equal to 0.
    return told == thing and not isinstance(thing, bool)
