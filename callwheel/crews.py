"""Crews: houses and cards, and the watch that sends crews out, moves them and calls them back [17, 18, 19]."""

from callwheel.errors import NoCall, NoCards
from callwheel.kinds import is_tuple_within, is_whole_within
from callwheel.wheels import is_number

MOST_CREWS = 9
LAST_HOUSE = 8
MOST_CARDS = 20
LEVELS = 3
MOST_SENT = 9
MOST_COVERS = 9


def are_cards(houses, cards):
    """Whether any two things are houses and cards."""
    if not are_houses(houses) or not is_tuple_within(cards, 0, MOST_CARDS):
        return False
    if not all(is_card(houses, card) for card in cards):
        return False
    return len({card[0] for card in cards}) == len(cards)


def are_houses(thing):
    """Whether any thing is the houses of crews."""
    return is_tuple_within(thing, 1, MOST_CREWS) and all(is_whole_within(house, 0, LAST_HOUSE) for house in thing)


def is_card(houses, thing):
    """Whether any thing is a card for the crews of these houses."""
    if not is_tuple_within(thing, 4, 4):
        return False
    number, order, counts, covers = thing
    return is_number(number) and is_order(houses, order) and are_counts(counts) and are_covers(houses, covers)


def is_order(houses, thing):
    """Whether any thing is a tuple of unlike crews."""
    if not isinstance(thing, tuple) or not all(is_crew(houses, crew) for crew in thing):
        return False
    return len(set(thing)) == len(thing)


def is_crew(houses, thing):
    """Whether any thing is a crew."""
    return is_whole_within(thing, 0, len(houses) - 1)


def are_counts(thing):
    """Whether any thing tells for each level how many crews go."""
    return is_tuple_within(thing, LEVELS, LEVELS) and all(is_whole_within(many, 0, MOST_SENT) for many in thing)


def are_covers(houses, thing):
    """Whether any thing is the covers of a card."""
    return is_tuple_within(thing, 0, MOST_COVERS) and all(is_cover(houses, cover) for cover in thing)


def is_cover(houses, thing):
    """Whether any thing is a tuple (crew, house) of a crew and a house that stands in houses."""
    if not is_tuple_within(thing, 2, 2):
        return False
    crew, house = thing
    return is_crew(houses, crew) and is_whole_within(house, 0, LAST_HOUSE) and house in houses


class Watch:
    """Who hears whole rounds and sends crews by cards."""

    def __init__(self, rounds, houses, cards):
        if not are_cards(houses, cards):
            raise NoCards("these are no houses and cards")
        self.rounds = rounds
        self.houses = houses
        self.cards = {card[0]: card for card in cards}
        self.stands = [("in", house) for house in houses]
        # Of each number the rounds heard since the beginning, and the calls since it was last called back from.
        self.rounds_heard = {}
        self.calls_made = {}

    def heard(self, number):
        """Hears a whole round; () where it is no call, else (level, crews that went, moves)."""
        ahead = self.rounds_heard.get(number, 0)
        self.rounds_heard[number] = ahead + 1
        if ahead % self.rounds != 0:
            return ()
        self.calls_made[number] = self.calls_made.get(number, 0) + 1
        level = min(self.calls_made[number], LEVELS)
        if number not in self.cards:
            return (level, (), ())
        card = self.cards[number]
        crews = self.send_out(number, card[1], card[2][level - 1])
        return (level, crews, self.do_covers(card[3]))

    def back(self, number):
        """Calls the crews back from a number: (crews that were out to it, crews that went home)."""
        if self.calls(number) == 0:
            raise NoCall("there is no call of it")
        del self.calls_made[number]
        crews = [crew for crew, stand in enumerate(self.stands) if stand == ("out", number)]
        for crew in crews:
            self.go_home(crew)
        return (tuple(crews), self.send_home())

    def crew(self, k):
        """How it stands with a crew: ("in", house) or ("out", number)."""
        return self.stands[k]

    def calls(self, number):
        """How many calls of any thing there are since it was last called back from."""
        if not is_number(number):
            return 0
        return self.calls_made.get(number, 0)

    def send_out(self, number, order, most):
        """Sends the first crews of an order that are in, at most so many, to a number; tells them."""
        ready = [crew for crew in order if self.stands[crew][0] == "in"]
        crews = ready[:most]
        for crew in crews:
            self.stands[crew] = ("out", number)
        return tuple(crews)

    def do_covers(self, covers):
        """Does the covers in turn that are due; tells them."""
        done = []
        for crew, house in covers:
            if self.is_due(crew, house):
                self.stands[crew] = ("in", house)
                done.append((crew, house))
        return tuple(done)

    def is_due(self, crew, house):
        """Whether the house stands empty and the crew can leave another crew behind where it is in."""
        stand = self.stands[crew]
        return ("in", house) not in self.stands and stand[0] == "in" and self.stands.count(stand) > 1

    def send_home(self):
        """Sends each crew in turn home from another house where one of that house is in again; tells them."""
        gone = []
        for crew in range(len(self.houses)):
            if self.is_relieved(crew):
                self.go_home(crew)
                gone.append(crew)
        return tuple(gone)

    def is_relieved(self, crew):
        """Whether the crew is in at another house than its own at which a crew of that house is in."""
        stand = self.stands[crew]
        if stand[0] == "out" or stand[1] == self.houses[crew]:
            return False
        return any(there == stand and own == stand[1] for there, own in zip(self.stands, self.houses))

    def go_home(self, crew):
        """Has the crew in at its own house."""
        self.stands[crew] = ("in", self.houses[crew])
