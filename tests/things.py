"""What the tests share: all numbers, their rows by the document's words, a wire tick by tick, and any things."""

from itertools import product

from callwheel import errors
from callwheel.boxes import box_behind, box_breaks, box_pulled, box_started, box_wound, new_box

SIGNS = [chr(code) for code in range(ord(" "), ord("~") + 1)]


def texts_of_figures(most):
    return ["".join(figures) for many in range(1, most + 1) for figures in product("123456789", repeat=many)]


def figures_together(text):
    return sum(int(figure) for figure in text)


def told_number(thing):
    """Whether a thing is a number by the words of [4], read once more."""
    if type(thing) is not str or len(thing) not in (1, 2, 3, 4):
        return False
    return set(thing) <= set("123456789") and figures_together(thing) <= 24


def told_row(text):
    ticks = ()
    for figure in text:
        ticks += (1, 0) * int(figure) + (0, 0)
    return ticks + (0, 0)


NUMBERS = [text for text in texts_of_figures(4) if figures_together(text) <= 24]
ROWS = {told_row(number): number for number in NUMBERS}
SOME_NUMBERS = sorted(set(NUMBERS[:90] + NUMBERS[::41] + ["9951", "6666", "1599", "996"]))


def told_or_refused(call, *things):
    """What a call tells, or the class of its refusal."""
    try:
        return call(*things)
    except errors.WheelError as refusal:
        return type(refusal)


def wrapped(thing, deep, kind):
    for _ in range(deep):
        thing = kind([thing])
    return thing


OTHER_KINDS = [
    0, 1, 2, -1, 12, 24, 58, 10 ** 30 - 1, 1 - 10 ** 30, True, False, None,
    (), [], (1,), [1], ("12",), ["12"], ("1", "2"), ["1", "2"], (None,), [None], (True,), [False], ((),), [[]], ([],),
    ("12", ["12"]), [("12",), "12"], (1, [0, (0, [0])]), ((1, 0, 0, 0, 0, 0),), [(1, 0, 0, 0, 0, 0)],
    wrapped("12", 10, tuple), wrapped("12", 10, list), wrapped([], 9, tuple), wrapped((), 9, list),
    tuple(["12"] * 2999), ["12"] * 2999, tuple([0] * 2999), tuple([[]] * 2999), ((("1",),), 1, 1), [[["1"]], 1, 1],
]
WRONG_TEXTS = [
    "", " ", "0", "a", "-1", "+1", "1 ", " 1", "1_1", "1.0", "x", "None", "True", "()", "('1',)", "10", "01", "120", "997",
    "9997", "99991", "12345", "11111", "1" * 1000, "~" * 1000,
]


class Wire:
    """Boxes on one wire that is neither cut nor held by a key, walked tick by tick with the program's boxes."""

    def __init__(self, numbers, rounds, spring=50, quiet=12):
        self.rounds = rounds
        self.spring = spring
        self.boxes = {number: new_box(spring)[:4] + (quiet,) for number in numbers}
        self.tape = []

    def pull(self, number):
        self.boxes[number] = box_pulled(self.boxes[number], self.rounds)

    def wind(self, number):
        self.boxes[number] = box_wound(self.boxes[number], self.spring)

    def tick(self):
        """One tick; tells (number, tick of its first break) of each box whose round came whole at it."""
        started = {number: box_started(box) for number, box in self.boxes.items()}
        broken = any(box_breaks(box, number) for number, box in started.items())
        self.boxes = {number: box_behind(box, number, broken) for number, box in started.items()}
        self.tape.append(int(broken))
        return [
            (len(self.tape) - len(told_row(number)), number)
            for number, box in started.items() if self.boxes[number][0] < box[0]
        ]

    def ticks(self, many):
        return [whole for _ in range(many) for whole in self.tick()]

    def is_idle(self):
        return all(box[0] == 0 for box in self.boxes.values())
