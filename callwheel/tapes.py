"""Tapes: rows of 0 (closed), 1 (broken) and 2 (the key held), and the pieces they are parted into [13]."""

from callwheel.kinds import is_tuple_within, is_whole_within
from callwheel.wheels import QUIET_END, number_of

CLOSED = 0
BROKEN = 1
KEY = 2
MOST_SIGNS = 6000


def is_tape(thing):
    """Whether any thing is a tape."""
    return is_tuple_within(thing, 0, MOST_SIGNS) and all(is_whole_within(sign, CLOSED, KEY) for sign in thing)


def parted(tape):
    """The pieces of a tape, a tuple of tuples (word, number or how many)."""
    return tuple(piece for piece, end in pieces_and_ends(tape))


def rounds_on(tape):
    """The rounds on a tape, a tuple of tuples (tick of the last sign, number)."""
    return tuple((end - 1, piece[1]) for piece, end in pieces_and_ends(tape) if piece[0] == "round")


def pieces_and_ends(tape):
    """A list of tuples (piece, tick behind it)."""
    found = []
    at = 0
    while at < len(tape):
        end = strokes_end(tape, at) if tape[at] == BROKEN else run_end(tape, at)
        found.append((piece_told(tape, at, end), end))
        at = end
    return found


def run_end(tape, at):
    """The tick behind all signs that stand beside the one at a tick and are like it."""
    for end in range(at, len(tape)):
        if tape[end] != tape[at]:
            return end
    return len(tape)


def strokes_end(tape, at):
    """The tick behind the piece that begins with a break: behind five closed ticks, or ahead of the key."""
    quiet = 0
    for end in range(at, len(tape)):
        if tape[end] == KEY:
            return end
        quiet = quiet + 1 if tape[end] == CLOSED else 0
        if quiet == QUIET_END:
            return end + 1
    return len(tape)


def piece_told(tape, at, end):
    """The piece that stands on the tape from a tick up to the tick behind it."""
    signs = tape[at:end]
    if signs[0] == KEY:
        return ("key", len(signs))
    if signs[0] == CLOSED:
        return ("quiet", len(signs))
    if signs[-QUIET_END:] == (CLOSED,) * QUIET_END:
        number = number_of(signs)
        return ("odd", len(signs)) if number is None else ("round", number)
    return ("spoilt" if end < len(tape) else "begun", len(signs))
