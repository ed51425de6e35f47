"""Offices by chance, their tapes, and whether a thing may be a book [21], read once more."""

from callwheel.offices import Office
from callwheel.tapes import rounds_on
from tables import all_numbers, done, some_deed, some_town
from watches import WatchTable, some_cards, some_houses

KINDS = {"pull": 5, "call": 6, "back": 5}
OUTCOMES = ["whole", "dumb", "down", "runs", "waits"]


def told_whole(thing, low, high):
    return type(thing) is int and low <= thing <= high


def ends_on(tapes):
    """All (tick, number) of rounds that end on some tape, in order."""
    return sorted({pair for loop in tapes for tape in loop for pair in rounds_on(tape)})


def told_calls(rounds, houses, cards, tapes, backs):
    """The lines of calls, by a watch of the tests' own; a back that would be refused is passed by."""
    watch = WatchTable(rounds, houses, cards)
    events = [(tick, 0, at, number) for at, (tick, number) in enumerate(backs)]
    events += [(tick, 1, at, number) for at, (tick, number) in enumerate(ends_on(tapes))]
    lines = []
    for tick, is_round, _, number in sorted(events):
        if is_round:
            told = watch.heard(number)
            lines += [("call", tick, number, *told)] if told else []
        elif watch.calls[number]:
            watch.back(number)
    return tuple(lines)


def may_be_book(town, houses, cards, tapes, thing):
    """Whether a thing may be the book by these tapes, by the words of [21], read once more."""
    ticks = len(tapes[0][0])
    if type(thing) is not tuple or not all(type(line) is tuple and line and type(line[0]) is str for line in thing):
        return False
    if not all(KINDS.get(line[0]) == len(line) and told_whole(line[1], 0, ticks) for line in thing):
        return False
    order = [(line[1], line[0] == "call") for line in thing]
    return order == sorted(order) and watch_agrees(town, houses, cards, tapes, thing) and pulls_agree(town, tapes, thing)


def watch_agrees(town, houses, cards, tapes, thing):
    """Whether backs and calls are as a watch tells them; texts tell True from 1 and lists from tuples."""
    watch = WatchTable(town[1], houses, cards)
    rounds = ends_on(tapes)
    lines = []
    for line in [line for line in thing if line[0] == "back"] + [("end", len(tapes[0][0]) + 1)]:
        while rounds and rounds[0][0] < line[1]:
            tick, number = rounds.pop(0)
            told = watch.heard(number)
            lines += [("call", tick, number, *told)] if told else []
        if line[0] == "back":
            if type(line[2]) is not str or not watch.calls[line[2]]:
                return False
            lines.append(("back", line[1], line[2], *watch.back(line[2])))
    return repr([line for line in thing if line[0] != "pull"]) == repr(lines)


def pulls_agree(town, tapes, thing):
    pulls = [line for line in thing if line[0] == "pull"]
    rounds = ends_on(tapes)
    numbers = all_numbers(town)
    if any(number not in numbers for _, number in rounds):
        return False
    for _, tick, number, outcome, ends in pulls:
        if number not in numbers or outcome not in OUTCOMES or type(ends) is not tuple:
            return False
        if not all(type(end) is int and end >= tick for end in ends):
            return False
        if len(ends) > town[1] or (len(ends) == town[1]) != (outcome == "whole"):
            return False
    for number in numbers:
        own = [line for line in pulls if line[2] == number]
        if [end for line in own for end in line[4]] != [tick for tick, heard in rounds if heard == number]:
            return False
        for ahead, later in zip(own, own[1:]):
            if ahead[3] != "whole" or later[1] <= ahead[4][-1]:
                return False
    return True


def tapes_of(office):
    return tuple((office.near_tape(loop), office.far_tape(loop)) for loop in range(len(office.cuts())))


def backs_of(book):
    return tuple((line[1], line[2]) for line in book if line[0] == "back")


def calls_of(book):
    return tuple(line for line in book if line[0] == "call")


def some_office(chance, deeds, most, **bounds):
    """An office by chance behind some deeds and ticks: (town, houses, cards, office, rounds that its ticks told)."""
    town = some_town(chance, **bounds)
    houses = some_houses(chance)
    numbers = all_numbers(town)
    cards = some_cards(chance, houses, chance.sample(numbers, min(20, len(numbers), chance.randrange(1, 21))))
    office = Office(town, houses, cards)
    came = []
    for _ in range(deeds):
        called = [number for number in numbers if office.calls(number)]
        if called and not chance.randrange(6):
            office.back(chance.choice(called))
        deed = some_deed(chance, town, office.cuts(), office.is_joined())
        if deed:
            done(office, deed)
        for _ in range(chance.choice((0, 1, 5, most // 3, most))):
            came += [(office.clock() - 1, number) for number in office.tick()]
    return town, houses, cards, office, came
