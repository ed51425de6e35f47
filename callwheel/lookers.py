"""Lookers: who has the tapes, the cards and the book alone, and tells the same calls [21]."""

from callwheel.crews import Watch
from callwheel.errors import NoCall
from callwheel.kinds import is_same, is_whole, is_whole_within
from callwheel.offices import OUTCOMES, back_line, call_lines
from callwheel.tapes import rounds_on
from callwheel.towns import spot_of


def calls_told(town, houses, cards, tapes, backs):
    """The book's lines of calls by the tapes and by when crews were called back."""
    watch = Watch(town[1], houses, cards)
    heard = numbers_heard(tapes)
    coming = by_ticks(backs, 0)
    lines = []
    for tick in range(ticks_of(tapes)):
        for back in coming.get(tick, []):
            # One that would be refused is passed by.
            if watch.calls(back[1]) > 0:
                watch.back(back[1])
        for number in heard.get(tick, []):
            lines.extend(call_lines(watch, tick, number))
    return tuple(lines)


def book_stands(town, houses, cards, tapes, thing):
    """Whether any thing may be the book of an office by these tapes."""
    last = ticks_of(tapes)
    if not isinstance(thing, tuple) or not all(is_line(town, last, line) for line in thing):
        return False
    heard = numbers_heard(tapes)
    if not pulls_stand(town, heard, [line for line in thing if line[0] == "pull"]):
        return False
    deeds = [line for line in thing if line[0] != "call"]
    try:
        again = book_again(Watch(town[1], houses, cards), heard, deeds, last)
    except NoCall:
        return False
    return is_same(again, thing)


def ticks_of(tapes):
    """How many ticks the tapes have."""
    return len(tapes[0][0])


def by_ticks(rows, place):
    """Of each tick that stands at a place of rows these rows, in their order."""
    found = {}
    for row in rows:
        found.setdefault(row[place], []).append(row)
    return found


def numbers_heard(tapes):
    """Of each tick at which rounds end on some tape their numbers, each once, in the order of texts."""
    found = {}
    for near, far in tapes:
        for tick, number in rounds_on(near) + rounds_on(far):
            found.setdefault(tick, {}).update({number: True})
    return {tick: sorted(found[tick]) for tick in found}


def is_line(town, last, thing):
    """Whether any thing has the shape of a book's line; what a watch tells is not looked at yet."""
    if not isinstance(thing, tuple) or len(thing) == 0:
        return False
    if thing[0] == "call":
        return True
    if thing[0] not in ("pull", "back") or len(thing) != 5 or not is_whole_within(thing[1], 0, last):
        return False
    return thing[0] == "back" or is_pull(town, thing)


def is_pull(town, line):
    """Whether a line of five has a number of the town, an outcome and ends, as one of a pull does."""
    word, tick, number, outcome, ends = line
    if spot_of(town, number) is None or outcome not in OUTCOMES:
        return False
    return isinstance(ends, tuple) and all(is_whole(end) for end in ends)


def pulls_stand(town, heard, pulls):
    """Whether the pulls are of just the rounds that were heard, and follow one another as pulls do."""
    ticks = {number: [] for loop in town[0] for number in loop}
    for tick in sorted(heard):
        for number in heard[tick]:
            if number not in ticks:
                return False
            ticks[number].append(tick)
    return all(number_stands(town[1], ticks[number], pulls_of(pulls, number)) for number in ticks)


def pulls_of(pulls, number):
    """The pulls of one number, in their order."""
    return [pull for pull in pulls if pull[2] == number]


def number_stands(rounds, ticks, pulls):
    """Whether the pulls of one number have just these ticks as their ends, each pull as many as it may."""
    if [end for pull in pulls for end in pull[4]] != ticks:
        return False
    # Only the last pull may have another outcome than "whole".
    if any(pull[3] != "whole" for pull in pulls[:-1]) or not all(pull_stands(rounds, pull) for pull in pulls):
        return False
    return all(later[1] > ahead[4][-1] for ahead, later in zip(pulls, pulls[1:]))


def pull_stands(rounds, pull):
    """Whether the pull's ends are not below its tick, and as many as its outcome says."""
    word, tick, number, outcome, ends = pull
    if any(end < tick for end in ends):
        return False
    return len(ends) == rounds if outcome == "whole" else len(ends) < rounds


def book_again(watch, heard, deeds, last):
    """The book that comes of its lines of pulls and backs, with all that the watch tells; NoCall may be made."""
    coming = by_ticks(deeds, 1)
    lines = []
    for tick in range(last + 1):
        for deed in coming.get(tick, []):
            lines.append(deed_again(watch, deed))
        for number in heard.get(tick, []):
            lines.extend(call_lines(watch, tick, number))
    return tuple(lines)


def deed_again(watch, deed):
    """The line of a pull as it is, that of a calling back as the watch tells it."""
    if deed[0] == "pull":
        return deed
    return back_line(deed[1], deed[2], watch.back(deed[2]))
