"""Meetings: numbers that start at one tick on one part of wire, of which one is left [10]."""

from callwheel.wheels import ahead_of_all, row_of


def meeting(numbers):
    """The tuple (first, leaves): who is left, and the place at which each number steps back."""
    first = ahead_of_all(numbers)
    return (first, tuple(leave_of(number, first) for number in numbers))


def leave_of(number, first):
    """The place at which a number steps back from the first one, None for the first itself."""
    # Where rows begin alike the wire is as each of them; so it is as the first one's row throughout.
    for place, (own, wire) in enumerate(zip(row_of(number), row_of(first))):
        if wire == 1 and own == 0:
            return place
    return None
