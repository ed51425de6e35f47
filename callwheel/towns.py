"""Towns: loops of boxes, how often a pull is sent, and how long a spring lasts [6]."""

from callwheel.kinds import is_tuple_within, is_whole_within
from callwheel.wheels import is_number

MOST_LOOPS = 4
MOST_BOXES = 12
MOST_ROUNDS = 4
MOST_SPRING = 50


def is_town(thing):
    """Whether any thing is a town (loops, rounds, spring)."""
    if not is_tuple_within(thing, 3, 3):
        return False
    loops, rounds, spring = thing
    if not is_whole_within(rounds, 1, MOST_ROUNDS) or not is_whole_within(spring, 1, MOST_SPRING):
        return False
    return are_loops(loops)


def are_loops(thing):
    """Whether any thing is the loops of a town."""
    if not is_tuple_within(thing, 1, MOST_LOOPS) or not all(is_loop(loop) for loop in thing):
        return False
    numbers = [number for loop in thing for number in loop]
    return len(set(numbers)) == len(numbers)


def is_loop(thing):
    """Whether any thing is a loop; a number may still stand twice in it."""
    return is_tuple_within(thing, 1, MOST_BOXES) and all(is_number(box) for box in thing)


def spot_of(town, thing):
    """Where the box of a number of the town stands, (loop, place); None of any other thing."""
    for at, loop in enumerate(town[0]):
        for place, number in enumerate(loop):
            if number == thing:
                return (at, place)
    return None
