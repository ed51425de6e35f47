"""A line by a table of its own: the boxes of [9] on the parts of [7], tick by tick; and towns and deeds by chance."""

from callwheel.boxes import box_behind, box_breaks, box_pulled, box_started, box_wound, new_box
from callwheel.wires import dumb_numbers, wire_parts
from things import NUMBERS, OTHER_KINDS, WRONG_TEXTS

NO_TOWNS = [thing for thing in OTHER_KINDS if thing != ((("1",),), 1, 1)] + WRONG_TEXTS + [
    ((), 1, 1), (((),), 1, 1), ((("1",),), 0, 1), ((("1",),), 5, 1), ((("1",),), 1, 0), ((("1",),), 1, 51),
    ((("1", "1"),), 1, 1), ((("1",), ("1",)), 1, 1), ((("0",),), 1, 1), (((1,),), 1, 1), ((("1",),), True, 1),
    ((("1",),), 1, True), ((["1"],), 1, 1), ([("1",)], 1, 1), [(("1",),), 1, 1], ((("1",),), 1), ((("1",),), 1, 1, 1),
    ((tuple(NUMBERS[:13]),), 1, 1), (tuple((number,) for number in NUMBERS[:5]), 1, 1),
]


class LineTable:
    """What [14] and [15] say of a line, read once more."""

    def __init__(self, town):
        self.town = town
        self.boxes = {number: new_box(town[2]) for loop in town[0] for number in loop}
        self.cut = [set() for _ in town[0]]
        self.joined = False
        self.key_till = [0] * len(town[0])
        self.clock = 0
        self.tapes = [([], []) for _ in town[0]]

    def cuts(self):
        return tuple(tuple(sorted(stretches)) for stretches in self.cut)

    def dumb(self):
        return dumb_numbers(self.town, self.cuts())

    def hold(self, loops):
        for loop in loops:
            self.key_till[loop] = self.clock + 2

    def all_loops(self):
        return range(len(self.town[0]))

    def do(self, deed, *told):
        """A deed that is not refused; tells what a line tells of it."""
        if deed == "pull":
            still = self.boxes[told[0]][0] != 0
            self.boxes[told[0]] = box_pulled(self.boxes[told[0]], self.town[1])
            return not still
        if deed == "wind":
            self.boxes[told[0]] = box_wound(self.boxes[told[0]], self.town[2])
        elif deed == "cut":
            self.cut[told[0]].add(told[1])
        elif deed == "mend":
            self.cut[told[0]].remove(told[1])
        elif deed in ("join", "part"):
            self.joined = deed == "join"
        if deed in ("join", "part"):
            self.hold(self.all_loops())
        elif deed in ("cut", "mend", "clear"):
            self.hold(self.all_loops() if self.joined else [told[0]])
        return None

    def parts_of_loops(self):
        """The parts, and for each loop the places of its near and its far one among them."""
        parts = wire_parts(self.town, self.cuts(), self.joined)
        places, at = [], 0
        for stretches in self.cut:
            if self.joined:
                places.append((0, 0))
            elif stretches:
                places.append((at, at + 1))
                at += 2
            else:
                places.append((at, at))
                at += 1
        return parts, places

    def tick(self):
        started = {number: box_started(box) for number, box in self.boxes.items()}
        parts, places = self.parts_of_loops()
        keys = [self.clock < till for till in self.key_till]
        broken = [any(box_breaks(started[number], number) for number in part) for part in parts]
        for key, ends in zip(keys, places):
            for at in ends:
                broken[at] = broken[at] or key
        feels = dict.fromkeys(self.dumb(), True)
        for part, is_broken in zip(parts, broken):
            feels.update(dict.fromkeys(part, is_broken))
        assert set(feels) == set(self.boxes)
        for key, ends, tapes in zip(keys, places, self.tapes):
            for at, tape in zip(ends, tapes):
                tape.append(2 if key else int(broken[at]))
        self.boxes = {number: box_behind(box, number, feels[number]) for number, box in started.items()}
        self.clock += 1
        return tuple(sorted(number for number in started if self.boxes[number][0] != started[number][0]))


def some_town(chance, loops=None, boxes=None, spring=None, rounds=None):
    """A town by chance; of a few short numbers and a few of any."""
    lengths = [boxes or chance.choice((1, 1, 2, 3, 4, 6, 12)) for _ in range(loops or chance.randrange(1, 5))]
    numbers = chance.sample(NUMBERS[:90] if chance.randrange(3) else NUMBERS, sum(lengths))
    rows = tuple(tuple(numbers[sum(lengths[:at]):sum(lengths[:at + 1])]) for at in range(len(lengths)))
    return (rows, rounds or chance.randrange(1, 5), spring or chance.choice((1, 2, 3, 5, 8, 50)))


def all_numbers(town):
    return [number for loop in town[0] for number in loop]


def some_deed(chance, town, cuts, joined, words=None):
    """A deed by chance that is not refused, or None: (word, what it is of ..)."""
    word = chance.choice(words or ("pull",) * 12 + ("wind", "wind", "cut", "cut", "mend", "mend", "join", "part", "clear"))
    if word in ("pull", "wind"):
        return (word, chance.choice(all_numbers(town)))
    if word in ("join", "part"):
        return (word,) if (word == "join") != joined else None
    loop = chance.randrange(len(town[0]))
    if word == "clear":
        return (word, loop)
    stretches = [at for at in range(len(town[0][loop]) + 1) if (at in cuts[loop]) == (word == "mend")]
    return (word, loop, chance.choice(stretches)) if stretches else None


def done(line, deed):
    """Does a deed (word, what it is of ..) to whatever has such methods."""
    return getattr(line, deed[0])(*deed[1:])
