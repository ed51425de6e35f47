"""Offices: a line and a watch, and the book of what came [20]."""

from callwheel.crews import Watch
from callwheel.lines import Line
from callwheel.wires import dumb_numbers

OUTCOMES = ("whole", "dumb", "down", "runs", "waits")


class Office:
    """A town's line, the watch that hears its rounds, and the book of pulls, calls and callings back."""

    def __init__(self, town, houses, cards):
        self.line = Line(town)
        self.watch = Watch(town[1], houses, cards)
        self.town = town
        self.houses = houses
        # The book's lines, those of pulls without their outcomes: these are told as it then stands.
        self.entries = []
        # Of each number that was pulled the place of its last pull among the entries.
        self.last_pulls = {}

    def pull(self, number):
        """Pulls a box; tells whether it had nothing to send and so now has."""
        told = self.line.pull(number)
        if told:
            self.last_pulls[number] = len(self.entries)
            self.entries.append(("pull", self.line.clock(), number, ()))
        return told

    def wind(self, number):
        """Winds a box's spring."""
        self.line.wind(number)

    def cut(self, loop, stretch):
        """Cuts a stretch of a loop."""
        self.line.cut(loop, stretch)

    def mend(self, loop, stretch):
        """Mends a cut stretch of a loop."""
        self.line.mend(loop, stretch)

    def join(self):
        """Joins all parts of wire to one."""
        self.line.join()

    def part(self):
        """Parts a joined town again."""
        self.line.part()

    def clear(self, loop):
        """Holds the key on a loop."""
        self.line.clear(loop)

    def tick(self):
        """One tick; the numbers whose round came whole at it, in the order of texts."""
        at = self.line.clock()
        numbers = self.line.tick()
        for number in numbers:
            self.note_end(number, at)
            self.entries.extend(call_lines(self.watch, at, number))
        return numbers

    def clock(self):
        """How many ticks there were."""
        return self.line.clock()

    def box(self, number):
        """How it stands with a box."""
        return self.line.box(number)

    def near_tape(self, loop):
        """The tape of a loop's near end."""
        return self.line.near_tape(loop)

    def far_tape(self, loop):
        """The tape of a loop's far end."""
        return self.line.far_tape(loop)

    def cuts(self):
        """For each loop the rising tuple of its cut stretches."""
        return self.line.cuts()

    def is_joined(self):
        """Whether the town is joined."""
        return self.line.is_joined()

    def back(self, number):
        """Calls the crews back from a number: (crews that were out to it, crews that went home)."""
        told = self.watch.back(number)
        self.entries.append(back_line(self.line.clock(), number, told))
        return told

    def crew(self, k):
        """How it stands with a crew: ("in", house) or ("out", number)."""
        return self.watch.crew(k)

    def calls(self, number):
        """How many calls of any thing there are since it was last called back from."""
        return self.watch.calls(number)

    def book(self):
        """All lines in the order in which they came, with the outcomes of pulls as it now stands."""
        dumb = dumb_numbers(self.town, self.line.cuts())
        return tuple(self.line_told(entry, dumb) for entry in self.entries)

    def note_end(self, number, at):
        """Writes the tick of a whole round to the last pull of its number."""
        place = self.last_pulls[number]
        word, tick, pulled, ends = self.entries[place]
        self.entries[place] = (word, tick, pulled, (*ends, at))

    def line_told(self, entry, dumb):
        """An entry as the book tells it."""
        if entry[0] != "pull":
            return entry
        word, tick, number, ends = entry
        return (word, tick, number, self.outcome_of(number, ends, dumb), ends)

    def outcome_of(self, number, ends, dumb):
        """How it stands with a pull whose rounds came whole at these ticks."""
        if len(ends) == self.town[1]:
            return "whole"
        if number in dumb:
            return "dumb"
        left, sent, spring, place, quiet = self.line.box(number)
        if spring == 0:
            return "down"
        return "waits" if place is None else "runs"


def call_lines(watch, at, number):
    """Has the watch hear a number at a tick; a list with the book's line of the call, empty where it is none."""
    told = watch.heard(number)
    if told == ():
        return []
    return [("call", at, number, *told)]


def back_line(at, number, told):
    """The book's line of a calling back at a tick."""
    return ("back", at, number, *told)
