"""The plain queue: which rounds come of pulls on one quiet wire, and how long all may need [11, 12]."""

from callwheel.boxes import MOST_QUIET, QUIET_TO_START
from callwheel.wheels import QUIET_END, ahead_of_all, row_of


def due_rounds(rounds, pulls):
    """The rounds that come of the pulls, a tuple of tuples (tick of the first break, number)."""
    told = []
    # Of each number that has rounds to send, how many of its pull it has sent.
    sent = {}
    coming = list(pulls)
    quiet_from = -MOST_QUIET
    tick = 0
    while coming or sent:
        coming = pulls_behind(coming, tick, sent)
        number = next_to_send(sent, tick - quiet_from)
        if number is None:
            tick += 1
            continue
        told.append((tick, number))
        end = tick + len(row_of(number))
        # Till its last tick the box is sending, and a pull of it does nothing.
        coming = pulls_behind(coming, end - 1, sent)
        count_round(sent, number, rounds)
        quiet_from = end - QUIET_END
        tick = end
    return tuple(told)


def pulls_behind(pulls, last, sent):
    """The pulls that are not done ahead of the tick last; the others are done to sent."""
    for tick, number in pulls:
        if tick <= last:
            sent.setdefault(number, 0)
    return [pull for pull in pulls if pull[0] > last]


def next_to_send(sent, quiet):
    """The number that begins at a tick ahead of which the wire was quiet so long, None where none does."""
    ready = [number for number in sent if quiet >= QUIET_TO_START + sent[number]]
    if len(ready) == 0:
        return None
    return ahead_of_all(ready)


def count_round(sent, number, rounds):
    """Counts a round that the number sent; with all its rounds sent, it has none to send."""
    sent[number] += 1
    if sent[number] == rounds:
        del sent[number]


def most_ticks(rounds, numbers):
    """The most ticks that numbers on one wire need, each with all rounds to send."""
    waits = [QUIET_TO_START - QUIET_END + sent for sent in range(rounds)]
    return QUIET_END + sum(len(row_of(number)) + wait for number in numbers for wait in waits)
