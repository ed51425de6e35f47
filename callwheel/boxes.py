"""Boxes: how it stands with one, (left, sent, spring, place, quiet), and what a tick makes of it [8, 9]."""

from callwheel.wheels import row_of

QUIET_TO_START = 8
MOST_QUIET = 12


def new_box(spring):
    """A new box with its spring wound."""
    return (0, 0, spring, None, 0)


def box_pulled(box, rounds):
    """The box behind a pull."""
    left, sent, spring, place, quiet = box
    if left > 0:
        return box
    return (rounds, 0, spring, place, quiet)


def box_wound(box, spring):
    """The box behind its winding."""
    left, sent, old_spring, place, quiet = box
    return (left, sent, spring, place, quiet)


def box_started(box):
    """The box behind a tick's beginning, at which its wheel may start."""
    left, sent, spring, place, quiet = box
    # Whoever has sent more waits longer, so that no box keeps the wire from the others.
    if place is None and left > 0 and spring > 0 and quiet >= QUIET_TO_START + sent:
        return (left, sent, spring, 0, quiet)
    return box


def box_breaks(box, number):
    """Whether the box of this number breaks the wire at this tick."""
    place = box[3]
    return place is not None and breaks_at(row_of(number), place)


def breaks_at(row, place):
    """Whether the row has 1 at the place; none has behind its end."""
    return place < len(row) and row[place] == 1


def box_behind(box, number, broken):
    """The box of this number behind a tick at which it felt the wire broken, or closed."""
    left, sent, spring, place, old_quiet = box
    quiet = 0 if broken else min(old_quiet + 1, MOST_QUIET)
    if place is None:
        return (left, sent, spring, None, quiet)
    row = row_of(number)
    if broken and not breaks_at(row, place):
        return (left, sent, spring, None, quiet)
    if place + 1 < len(row):
        return (left, sent, spring, place + 1, quiet)
    now_sent = sent + 1 if left > 1 else 0
    return (left - 1, now_sent, spring - 1, None, quiet)
