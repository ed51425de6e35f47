"""Wheels: the numbers of boxes, the rows of their ticks, and who goes ahead [4, 5]."""

from callwheel.kinds import is_tuple_within, is_whole_within

FIGURES = "123456789"
MOST_FIGURES = 4
MOST_TOGETHER = 24
MOST_TICKS = 58
# So many ticks at the end of each row are closed.
QUIET_END = 5


def is_number(thing):
    """Whether any thing is a number."""
    if not isinstance(thing, str) or not 1 <= len(thing) <= MOST_FIGURES:
        return False
    if not all(sign in FIGURES for sign in thing):
        return False
    return sum(int(figure) for figure in thing) <= MOST_TOGETHER


def row_of(number):
    """The row of a number, a tuple of 1 (broken) and 0 (closed)."""
    ticks = []
    for figure in number:
        ticks.extend([1, 0] * int(figure))
        ticks.extend([0, 0])
    ticks.extend([0, 0])
    return tuple(ticks)


def number_of(thing):
    """The number whose row any thing is, None where it is none's."""
    if not are_ticks(thing):
        return None
    text = text_read(thing)
    # Ticks that are no row can read like a number, too; only the number's own row counts.
    if is_number(text) and row_of(text) == thing:
        return text
    return None


def are_ticks(thing):
    """Whether any thing is a tuple of whole numbers 0 and 1, no longer than a row."""
    return is_tuple_within(thing, 1, MOST_TICKS) and all(is_whole_within(tick, 0, 1) for tick in thing)


def text_read(ticks):
    """The figures that ticks have, if they are a row: three 0 part the strokes of two figures."""
    signs = "".join(str(tick) for tick in ticks)
    strokes = [run.count("1") for run in signs.split("000")]
    return "".join(str(many) for many in strokes if many > 0)


def goes_ahead(one, other):
    """Whether the one number goes ahead of the other, unlike one."""
    # Where two rows first differ, the one with 1 has the greater figure there, or a figure
    # more behind alike ones; so the rows are ordered just as the texts are.
    return one > other


def ahead_of_all(numbers):
    """The one of unlike numbers, one at least, that goes ahead of all others."""
    return max(numbers)
