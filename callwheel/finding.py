"""Finding: where the cuts of a loop lie, by what its two tapes heard [16]."""

from callwheel.tapes import KEY, rounds_on


def cut_range(numbers, near, far):
    """The tuple (low, high) of stretches between which all cuts lie; None where a number was heard on both."""
    on_near = places_heard(numbers, near)
    on_far = places_heard(numbers, far)
    if any(place in on_far for place in on_near):
        return None
    # A box heard at the near end has no cut ahead of it, one heard at the far end none behind it.
    low = max(on_near) + 1 if on_near else 0
    high = min(on_far) if on_far else len(numbers)
    return (low, high)


def places_heard(numbers, tape):
    """The places of the loop's boxes whose rounds came whole on the tape behind its last key."""
    last_key = max([tick for tick, sign in enumerate(tape) if sign == KEY], default=-1)
    heard = {number: True for tick, number in rounds_on(tape) if tick > last_key}
    return [place for place, number in enumerate(numbers) if number in heard]
