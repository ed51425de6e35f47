"""A watch by a table of its own [18, 19], and houses and cards by chance."""

from collections import Counter

SOME_HOUSES = (0, 1, 1, 2)
SOME_CARDS = (("12", (0, 3), (1, 1, 1), ((2, 0), (1, 2))), ("1", (3, 1), (2, 1, 0), ((2, 2),)))
# Two things that are no houses and cards.
NO_CARDS = [
    ((), ()), ((9,), ()), ((True,), ()), ([0], ()), (0, ()), (None, None), (SOME_HOUSES, list(SOME_CARDS)),
    (SOME_HOUSES, SOME_CARDS + SOME_CARDS), (SOME_HOUSES[:3], SOME_CARDS), (SOME_CARDS, SOME_HOUSES),
    (SOME_HOUSES, (("0", (), (0, 0, 0), ()),)),
]


class WatchTable:
    """What [18] and [19] say of a watch, read once more."""

    def __init__(self, rounds, houses, cards):
        self.rounds, self.own, self.cards = rounds, houses, cards
        self.house = dict(enumerate(houses))
        self.out = {}
        self.rounds_of, self.calls = Counter(), Counter()

    def crews(self):
        return [("out", self.out[k]) if k in self.out else ("in", self.house[k]) for k in range(len(self.own))]

    def who_is_at(self, house):
        return [k for k in self.house if k not in self.out and self.house[k] == house]

    def heard(self, number):
        self.rounds_of[number] += 1
        if (self.rounds_of[number] - 1) % self.rounds:
            return ()
        self.calls[number] += 1
        level = min(3, self.calls[number])
        went, moves = [], []
        for card, order, counts, covers in self.cards:
            if card != number:
                continue
            for crew in order:
                if crew not in self.out and len(went) < counts[level - 1]:
                    self.out[crew] = number
                    went.append(crew)
            for crew, house in covers:
                alone = crew in self.out or self.who_is_at(self.house[crew]) == [crew]
                if not alone and not self.who_is_at(house):
                    self.house[crew] = house
                    moves.append((crew, house))
        return (level, tuple(went), tuple(moves))

    def back(self, number):
        crews = sorted(crew for crew, place in self.out.items() if place == number)
        for crew in crews:
            del self.out[crew]
            self.house[crew] = self.own[crew]
        self.calls[number] = 0
        gone = []
        for crew in range(len(self.own)):
            house = self.house[crew]
            if crew in self.out or house == self.own[crew]:
                continue
            if any(self.own[other] == house for other in self.who_is_at(house)):
                self.house[crew] = self.own[crew]
                gone.append(crew)
        return (tuple(crews), tuple(gone))


def some_houses(chance):
    """Houses by chance, of few unlike ones."""
    kinds = chance.sample(range(9), chance.randrange(1, 5))
    return tuple(chance.choice(kinds) for _ in range(chance.randrange(1, 10)))


def some_cards(chance, houses, numbers):
    """A card by chance for each of the numbers."""
    crews = range(len(houses))
    return tuple(
        (
            number, tuple(chance.sample(crews, chance.randrange(len(houses) + 1))),
            tuple(chance.choice((0, 1, 1, 2, 3, 9)) for _ in range(3)),
            tuple((chance.choice(crews), chance.choice(houses)) for _ in range(chance.randrange(10))),
        ) for number in numbers
    )
