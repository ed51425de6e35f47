"""Texts: tapes and their pieces as texts, and tapes read from them [22]."""

from callwheel.errors import NoText
from callwheel.tapes import is_tape

# The sign of each tick stands at the tick's own number.
SIGNS = ".xK"


def tape_text(tape):
    """The text of a tape."""
    return "".join(SIGNS[tick] for tick in tape)


def read_tape(text):
    """The tape of which any thing is the text."""
    if not isinstance(text, str):
        raise NoText("this is no text")
    # A sign that stands for no tick is found nowhere, at -1, which is in no tape.
    tape = tuple(SIGNS.find(sign) for sign in text)
    if not is_tape(tape):
        raise NoText("this is the text of no tape")
    return tape


def pieces_text(pieces):
    """The text of the pieces of a tape."""
    if len(pieces) == 0:
        return "none"
    return ", ".join(f"{word} {worth}" for word, worth in pieces)
