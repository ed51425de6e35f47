"""A desk: rows of words that are told to an office, and its answers, texts [23]."""

from callwheel.errors import NoBox, NoDeed, NoRow
from callwheel.finding import cut_range
from callwheel.offices import Office
from callwheel.tapes import parted
from callwheel.texts import pieces_text, tape_text

DIGITS = "0123456789"
MOST_DIGITS = 4
MOST_TICKS_ASKED = 600


def pull_answer(office, number):
    """The answer to `pull NUMBER`."""
    return "ok" if office.pull(number) else "still"


def wind_answer(office, number):
    """The answer to `wind NUMBER`."""
    office.wind(number)
    return "ok"


def cut_answer(office, loop, stretch):
    """The answer to `cut LOOP STRETCH`."""
    office.cut(loop, stretch)
    return "ok"


def mend_answer(office, loop, stretch):
    """The answer to `mend LOOP STRETCH`."""
    office.mend(loop, stretch)
    return "ok"


def join_answer(office):
    """The answer to `join`."""
    office.join()
    return "ok"


def part_answer(office):
    """The answer to `part`."""
    office.part()
    return "ok"


def clear_answer(office, loop):
    """The answer to `clear LOOP`."""
    office.clear(loop)
    return "ok"


def ticks_answer(office, many):
    """The answer to `ticks MANY`."""
    if not 1 <= many <= MOST_TICKS_ASKED:
        raise NoRow("so many ticks are not asked for at once")
    came = []
    for asked in range(many):
        at = office.clock()
        came.extend([f"{at}:{number}" for number in office.tick()])
    return " ".join(came) if came else "none"


def back_answer(office, number):
    """The answer to `back NUMBER`."""
    crews, others = office.back(number)
    return blanks_between((*crews, "and", *others))


def box_answer(office, number):
    """The answer to `box NUMBER`."""
    return blanks_between(["-" if part is None else part for part in office.box(number)])


def near_answer(office, loop):
    """The answer to `near LOOP`."""
    return pieces_text(parted(office.near_tape(loop)))


def far_answer(office, loop):
    """The answer to `far LOOP`."""
    return pieces_text(parted(office.far_tape(loop)))


def tape_answer(office, loop):
    """The answer to `tape LOOP`."""
    texts = [tape_text(office.near_tape(loop)), tape_text(office.far_tape(loop))]
    return blanks_between([text if text else "-" for text in texts])


def where_answer(office, loop):
    """The answer to `where LOOP`."""
    near = office.near_tape(loop)
    far = office.far_tape(loop)
    if office.is_joined():
        raise NoDeed("in a joined town all loops hear one another")
    told = cut_range(office.town[0][loop], near, far)
    return "whole" if told is None else blanks_between(told)


def crew_answer(office, crew):
    """The answer to `crew CREW`."""
    if crew >= len(office.houses):
        raise NoBox("there is no such crew")
    return blanks_between(office.crew(crew))


def calls_answer(office, number):
    """The answer to `calls NUMBER`."""
    return str(office.calls(number))


def book_answer(office):
    """The answer to `book`."""
    return str(len(office.book()))


def line_answer(office, many):
    """The answer to `line MANY`."""
    book = office.book()
    if not 1 <= many <= len(book):
        raise NoRow("the book has no such line")
    return blanks_between([part_text(part) for part in book[many - 1]])


def blanks_between(parts):
    """The text of parts with blanks between."""
    return " ".join(str(part) for part in parts)


def part_text(part):
    """The text of a part of a book's line."""
    if not isinstance(part, tuple):
        return str(part)
    if len(part) == 0:
        return "-"
    return ",".join(member_text(member) for member in part)


def member_text(member):
    """The text of a tick, a crew or a cover."""
    if isinstance(member, tuple):
        crew, house = member
        return f"{crew}>{house}"
    return str(member)


# Of each row the kinds of the words behind its first one: w any word, d a whole number by its digits.
KINDS = {
    "pull": "w", "wind": "w", "cut": "dd", "mend": "dd", "join": "", "part": "", "clear": "d", "ticks": "d",
    "back": "w", "box": "w", "near": "d", "far": "d", "tape": "d", "where": "d", "crew": "d", "calls": "w",
    "book": "", "line": "d",
}
ANSWERS = {
    "pull": pull_answer, "wind": wind_answer, "cut": cut_answer, "mend": mend_answer, "join": join_answer,
    "part": part_answer, "clear": clear_answer, "ticks": ticks_answer, "back": back_answer, "box": box_answer,
    "near": near_answer, "far": far_answer, "tape": tape_answer, "where": where_answer, "crew": crew_answer,
    "calls": calls_answer, "book": book_answer, "line": line_answer,
}


class Desk:
    """An office that is told rows and answers them."""

    def __init__(self, town, houses, cards):
        self.office = Office(town, houses, cards)

    def say(self, row):
        """The answer to a row."""
        if not isinstance(row, str):
            raise NoRow("this is no text")
        words = row.split(" ")
        if words[0] not in KINDS or len(words) != 1 + len(KINDS[words[0]]):
            raise NoRow("there is no such row")
        values = [value_of(kind, word) for kind, word in zip(KINDS[words[0]], words[1:])]
        action = ANSWERS[words[0]]
        return action(self.office, *values)


def value_of(kind, word):
    """What a word of this kind stands for."""
    if word == "":
        raise NoRow("two blanks stand beside one another, or one at an end")
    if kind == "w":
        return word
    if not is_whole_text(word):
        raise NoRow("this is no whole number of at most four digits")
    return int(word)


def is_whole_text(word):
    """Whether a word is a whole number by its digits, without a nought ahead but in 0 itself."""
    if len(word) > MOST_DIGITS or not all(sign in DIGITS for sign in word):
        return False
    return word == "0" or word[0] != "0"
