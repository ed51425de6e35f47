"""A desk: its rows and answers, as an office beside tells [23]."""

import copy
import re
import unittest
from random import Random

from callwheel import errors
from callwheel.desk import Desk
from callwheel.finding import cut_range
from callwheel.offices import Office
from callwheel.tapes import parted
from callwheel.texts import pieces_text, tape_text
from books import tapes_of
from tables import NO_TOWNS, all_numbers, some_deed, some_town
from things import OTHER_KINDS, SIGNS, WRONG_TEXTS, told_or_refused
from watches import NO_CARDS, SOME_CARDS as CARDS, SOME_HOUSES as HOUSES, some_cards, some_houses

TOWN = ((("12", "3", "4567"), ("1",), ("21", "996")), 2, 5)
WHOLE = "(0|[1-9][0-9]{0,3})"
ROWS = [
    re.compile(pattern) for pattern in
    ["(pull|wind|back|box|calls) ([^ ]+)", f"(cut|mend) {WHOLE} {WHOLE}", f"(clear|near|far|tape|where|crew|ticks|line) {WHOLE}",
     "(join|part|book)"]
]


def words_of(row):
    """The word of a row and what stands behind it; None of what is no row."""
    for pattern in ROWS:
        found = pattern.fullmatch(row) if isinstance(row, str) else None
        if found:
            word, *others = found.groups()
            return (word, *[other if word in ("pull", "wind", "back", "box", "calls") else int(other) for other in others])
    return None


class DeskTable:
    """What [23] says of a desk, read once more, over an office beside."""

    def __init__(self, town, houses, cards):
        self.town, self.houses = town, houses
        self.office = Office(town, houses, cards)

    def say(self, row):
        words = words_of(row)
        if words is None:
            raise errors.NoRow("no row")
        word, *things = words
        if word in ("cut", "mend", "join", "part", "clear", "wind"):
            getattr(self.office, word)(*things)
            return "ok"
        return getattr(self, "say_" + word)(*things)

    def say_pull(self, number):
        return {True: "ok", False: "still"}[self.office.pull(number)]

    def say_ticks(self, many):
        if many == 0 or many > 600:
            raise errors.NoRow("no row")
        came = [(self.office.clock() - 1, number) for _ in range(many) for number in self.office.tick()]
        return " ".join(f"{tick}:{number}" for tick, number in came) or "none"

    def say_back(self, number):
        crews, others = self.office.back(number)
        return " ".join([*map(str, crews), "and", *map(str, others)])

    def say_box(self, number):
        return " ".join("-" if part is None else str(part) for part in self.office.box(number))

    def say_near(self, loop):
        return pieces_text(parted(self.office.near_tape(loop)))

    def say_far(self, loop):
        return pieces_text(parted(self.office.far_tape(loop)))

    def say_tape(self, loop):
        near, far = self.office.near_tape(loop), self.office.far_tape(loop)
        return f"{tape_text(near) or '-'} {tape_text(far) or '-'}"

    def say_where(self, loop):
        near, far = self.office.near_tape(loop), self.office.far_tape(loop)
        if self.office.is_joined():
            raise errors.NoDeed("joined")
        told = cut_range(self.town[0][loop], near, far)
        return f"{told[0]} {told[1]}" if told else "whole"

    def say_crew(self, crew):
        if crew >= len(self.houses):
            raise errors.NoBox("no crew")
        return "{} {}".format(*self.office.crew(crew))

    def say_calls(self, number):
        return str(self.office.calls(number))

    def say_book(self):
        return str(len(self.office.book()))

    def say_line(self, many):
        book = self.office.book()
        if many == 0 or many > len(book):
            raise errors.NoRow("no line")
        line = book[many - 1]
        if line[0] == "pull":
            parts = [*line[:4], ",".join(map(str, line[4]))]
        elif line[0] == "call":
            parts = [*line[:4], ",".join(map(str, line[4])), ",".join(f"{crew}>{house}" for crew, house in line[5])]
        else:
            parts = [*line[:3], ",".join(map(str, line[3])), ",".join(map(str, line[4]))]
        return " ".join(str(part) if part != "" else "-" for part in parts)


class Desks(unittest.TestCase):
    def desk(self):
        return Desk(TOWN, HOUSES, CARDS)

    def all_said(self, desk, town=TOWN, houses=HOUSES):
        """All that a desk tells without changing anything."""
        rows = ["book"] + [f"line {many}" for many in range(1, int(desk.say("book")) + 1)]
        rows += [f"{word} {number}" for word in ("box", "calls") for number in all_numbers(town)]
        rows += [f"{word} {loop}" for word in ("tape", "near", "far", "where") for loop in range(len(town[0]))]
        rows += [f"crew {crew}" for crew in range(len(houses))]
        return [told_or_refused(desk.say, row) for row in rows]

    def assert_said(self, desk, *pairs):
        for row, answer in pairs:
            self.assertEqual(desk.say(row), answer, row)

    def assert_refused(self, name, desk, row):
        self.assertIs(told_or_refused(desk.say, row), getattr(errors, name), row)


class New(Desks):
    def test_no_town_ahead_of_no_cards(self):
        for thing in NO_TOWNS:
            self.assertIs(told_or_refused(Desk, thing, HOUSES, CARDS), errors.NoTown)
            self.assertIs(told_or_refused(Desk, thing, None, CARDS), errors.NoTown)
        for houses, cards in NO_CARDS:
            self.assertIs(told_or_refused(Desk, TOWN, houses, cards), errors.NoCards)

    def test_two_desks(self):
        one, other = self.desk(), self.desk()
        fresh = self.all_said(other)
        for row in ("pull 12", "cut 1 0", "ticks 60", "back 12", "join"):
            one.say(row)
        self.assertEqual(self.all_said(other), fresh)
        before = self.all_said(one)
        for row in ("pull 1", "ticks 60"):
            other.say(row)
        self.assertEqual(self.all_said(one), before)

    def test_what_was_handed_in_stays(self):
        handed = copy.deepcopy((TOWN, HOUSES, CARDS))
        desk = Desk(*handed)
        for row in ("pull 12", "ticks 60", "back 12"):
            desk.say(row)
        self.assertEqual(handed, (TOWN, HOUSES, CARDS))


class Rows(Desks):
    def test_deeds(self):
        self.assert_said(
            self.desk(), ("pull 12", "ok"), ("pull 12", "still"), ("wind 3", "ok"), ("cut 0 1", "ok"), ("mend 0 1", "ok"),
            ("join", "ok"), ("part", "ok"), ("clear 2", "ok"), ("pull 1", "ok"), ("pull 12", "still"))

    def test_ticks(self):
        self.assert_said(
            self.desk(), ("ticks 1", "none"), ("pull 1", "ok"), ("pull 12", "ok"), ("ticks 12", "none"),
            ("ticks 7", "13:1 19:12"), ("ticks 600", "23:1 35:12"), ("ticks 600", "none"))

    def test_several_at_one_tick(self):
        desk = Desk(((("41",), ("14",), ("23",)), 1, 5), (0,), ())
        for number in ("41", "23", "14"):
            desk.say("pull " + number)
        end = 8 + 2 * 5 + 4 + 2 - 1
        self.assertEqual(desk.say("ticks 100"), f"{end}:14 {end}:23 {end}:41")

    def test_how_many_ticks(self):
        desk = self.desk()
        for many, is_row in ((0, False), (1, True), (2, True), (599, True), (600, True), (601, False), (1000, False), (9999, False)):
            before = self.all_said(desk)
            if is_row:
                self.assertEqual(desk.say(f"ticks {many}"), "none")
            else:
                self.assert_refused("NoRow", desk, f"ticks {many}")
                self.assertEqual(self.all_said(desk), before)
        self.assertEqual(len(desk.say("tape 0")), 2 * (1 + 2 + 599 + 600) + 1)

    def test_back(self):
        desk = Desk(TOWN, (0, 1, 1, 2, 2), (("1", (3, 0), (2, 0, 0), ((2, 0),)), ("3", (), (0, 0, 0), ())))
        self.assert_said(desk, ("pull 1", "ok"), ("pull 3", "ok"), ("ticks 60", "13:1 17:3 23:1 31:3"))
        self.assert_said(desk, ("back 3", "and"), ("back 1", "0 3 and 2"))
        for number in ("1", "3", "12", "7777", "x", "0", "1,3", "and"):
            self.assert_refused("NoCall", desk, "back " + number)

    def test_box(self):
        desk = self.desk()
        self.assert_said(desk, ("box 12", "0 0 5 - 0"), ("pull 12", "ok"), ("ticks 8", "none"), ("box 12", "2 0 5 - 8"))
        self.assert_said(desk, ("ticks 1", "none"), ("box 12", "2 0 5 1 0"), ("ticks 300", "19:12 35:12"), ("box 12", "0 0 3 - 12"))

    def test_tapes(self):
        desk = self.desk()
        self.assert_said(desk, ("near 0", "none"), ("far 0", "none"), ("tape 0", "- -"))
        self.assert_said(desk, ("cut 1 0", "ok"), ("pull 1", "ok"), ("ticks 12", "none"), ("near 1", "key 2, quiet 10"))
        self.assert_said(desk, ("far 1", "key 2, quiet 8, begun 2"), ("tape 1", "KK.......... KK........x."), ("near 0", "quiet 12"))
        self.assert_said(desk, ("ticks 4", "15:1"), ("far 1", "key 2, quiet 8, round 1"), ("tape 1", "KK.............. KK........x....."))

    def test_where(self):
        desk = self.desk()
        self.assert_said(desk, ("where 0", "0 3"), ("where 1", "0 1"), ("pull 3", "ok"), ("ticks 100", "17:3 31:3"), ("where 0", "whole"))
        self.assert_said(desk, ("cut 0 2", "ok"), ("where 0", "whole"), ("ticks 2", "none"), ("where 0", "0 3"))
        self.assert_said(desk, ("pull 3", "ok"), ("ticks 60", "119:3 133:3"), ("where 0", "2 3"))
        self.assert_said(desk, ("pull 4567", "ok"), ("ticks 200", "215:4567 273:4567"), ("where 0", "2 2"))

    def test_where_in_a_joined_town(self):
        desk = self.desk()
        desk.say("join")
        for loop in (0, 1, 2):
            self.assert_refused("NoDeed", desk, f"where {loop}")
        for loop in (3, 4, 9999):
            self.assert_refused("NoLoop", desk, f"where {loop}")
        desk.say("part")
        self.assertEqual(desk.say("where 0"), "0 3")

    def test_crew_and_calls(self):
        desk = self.desk()
        self.assert_said(desk, ("crew 0", "in 0"), ("crew 3", "in 2"), ("calls 12", "0"), ("pull 12", "ok"), ("ticks 60", "19:12 35:12"))
        self.assert_said(desk, ("crew 0", "out 12"), ("crew 2", "in 0"), ("calls 12", "1"), ("calls x", "0"), ("calls 7777", "0"))
        for crew in (4, 5, 10, 9999):
            self.assert_refused("NoBox", desk, f"crew {crew}")

    def test_book_and_lines(self):
        desk = self.desk()
        self.assert_said(desk, ("book", "0"))
        self.assert_refused("NoRow", desk, "line 0")
        self.assert_refused("NoRow", desk, "line 1")
        self.assert_said(desk, ("pull 12", "ok"), ("pull 12", "still"), ("book", "1"), ("line 1", "pull 0 12 waits -"))
        self.assert_said(desk, ("ticks 60", "19:12 35:12"), ("book", "2"), ("line 1", "pull 0 12 whole 19,35"))
        self.assert_said(desk, ("line 2", "call 19 12 1 0 2>0"), ("pull 3", "ok"), ("pull 1", "ok"), ("ticks 60", "65:1 69:3 75:1 83:3"))
        self.assert_said(desk, ("line 5", "call 65 1 1 3,1 -"), ("line 6", "call 69 3 1 - -"), ("back 12", "0 and 2"))
        self.assert_said(desk, ("line 7", "back 120 12 0 2"), ("back 3", "and"), ("line 8", "back 120 3 - -"), ("book", "8"))
        for many in (0, 9, 10, 9999):
            self.assert_refused("NoRow", desk, f"line {many}")

    def test_several_moves(self):
        desk = Desk(TOWN, (0, 2, 1, 1, 1), (("1", (0, 1), (2, 0, 0), ((2, 0), (3, 2))),))
        self.assert_said(desk, ("pull 1", "ok"), ("ticks 60", "13:1 23:1"), ("line 2", "call 13 1 1 0,1 2>0,3>2"))
        self.assert_said(desk, ("back 1", "0 1 and 2 3"), ("line 3", "back 60 1 0,1 2,3"))


class Refusals(Desks):
    def busy(self):
        desk = self.desk()
        for row in ("pull 12", "ticks 50", "cut 0 1", "pull 3", "ticks 40", "pull 1"):
            desk.say(row)
        return desk

    def assert_all_refused(self, name, rows):
        desk = self.busy()
        before = self.all_said(desk)
        for row in rows:
            copied = copy.deepcopy(row)
            self.assert_refused(name, desk, row)
            self.assertEqual(row, copied)
        self.assertEqual(self.all_said(desk), before)

    def test_as_the_functions_refuse(self):
        for word in ("pull", "wind", "box"):
            self.assert_all_refused("NoBox", [f"{word} {thing}" for thing in ("2", "13", "x", "0", "012", "-", "12345", "pull", "~")])
        for word in ("clear", "near", "far", "tape", "where"):
            self.assert_all_refused("NoLoop", [f"{word} {loop}" for loop in (3, 4, 10, 9999)])
        self.assert_all_refused("NoLoop", ["cut 3 0", "cut 9999 9999", "mend 3 1", "mend 4 99"])
        self.assert_all_refused("NoStretch", ["cut 0 1", "cut 0 4", "cut 1 2", "cut 0 9999", "mend 0 0", "mend 0 4", "mend 2 1"])
        self.assert_all_refused("NoDeed", ["part"])
        self.assert_all_refused("NoCall", ["back 1", "back x", "back 7777"])
        self.assert_all_refused("NoBox", ["crew 4", "crew 9999"])

    def test_what_is_refused_holds_no_key(self):
        desk = self.desk()
        for row in ("cut 0 9", "mend 0 0", "clear 3", "part", "cut 0", "clear 00", "join x", "pull 2", "ticks 0"):
            self.assertIsInstance(told_or_refused(desk.say, row), type)
        desk.say("ticks 2")
        self.assertEqual(desk.say("tape 0"), ".. ..")

    def test_what_is_no_text(self):
        self.assert_all_refused("NoRow", OTHER_KINDS + [("book",), ["book"], ("pull", "12"), ["pull", "12"]])

    def test_no_row(self):
        good = ["pull 12", "wind 12", "cut 0 2", "mend 0 1", "join", "clear 0", "ticks 5", "back 12", "box 12", "near 0", "far 0",
                "tape 0", "where 1", "crew 0", "calls 12", "book", "line 1"]
        wrong = [row for row in WRONG_TEXTS if row != "book"]
        for row in good:
            word, *others = row.split(" ")
            wrong += [row + " ", " " + row, row.replace(" ", "  ", 1) + ("" if others else " "), row + " 1", row + " x", row.upper()]
            wrong += [row.capitalize(), "x" + row, word + "s" + row[len(word):], row[1:], ".".join([word, *others]) + ".", row + "  "]
            if others:
                wrong += [word, word + " ", " ".join(others), word + "".join(others)]
            wrong.append(" ".join([*others, word]) if others else word * 2)
        self.assert_all_refused("NoRow", wrong)

    def test_whole_numbers_by_their_digits(self):
        odd = ["00", "01", "000", "+1", "-1", "-0", "1.0", "1_0", "1e2", "0x1", "a", "x", "None", "12345", "10000", "00000", "1,", "'1'", "1a"]
        words = ("clear", "ticks", "near", "far", "tape", "where", "crew", "line")
        rows = [f"{word} {text}" for word in words for text in odd]
        rows += [f"{word} {text} 0" for word in ("cut", "mend") for text in odd]
        rows += [f"{word} 0 {text}" for word in ("cut", "mend") for text in odd]
        rows += [f"{word} 9 {text}" for word in ("cut", "mend") for text in odd]
        self.assert_all_refused("NoRow", rows)

    def test_no_row_ahead_of_the_others(self):
        desk = self.busy()
        desk.say("join")
        for row in ("where 00", "where 3 3", "cut 9 x", "mend 9", "ticks 601", "line 0", "crew 04", "part  ", "join "):
            self.assert_refused("NoRow", desk, row)

    def test_each_sign_at_each_place(self):
        desk = self.busy()
        before = self.all_said(desk)
        for row in ("box 12", "near 0", "book", "crew 1"):
            for sign in SIGNS:
                for at in range(len(row) + 1):
                    for other in (row[:at] + sign + row[at:], row[:at] + sign + row[at + 1:]):
                        answer = told_or_refused(desk.say, other)
                        words = words_of(other)
                        if words is None:
                            self.assertIs(answer, errors.NoRow, other)
                        else:
                            self.assertIsNot(answer, errors.NoRow, other)
        self.assertEqual(self.all_said(desk), before)

    def test_long_rows(self):
        self.assert_all_refused("NoRow", ["pull" + " " * 996, "x" * 1000, " ".join("x" * 500), "ticks " + "1" * 994])
        self.assert_all_refused("NoBox", ["pull " + "1" * 995])
        self.assert_all_refused("NoCall", ["back " + "~" * 995])
        self.assertEqual(self.desk().say("calls " + "1" * 994), "0")


class AsAnOfficeBeside(Desks):
    def some_row(self, chance, town, houses, office):
        """A row by chance, mostly a good one."""
        shape = chance.randrange(8)
        if shape < 4:
            deed = some_deed(chance, town, office.cuts(), office.is_joined()) or ("book",)
            return " ".join(str(part) for part in deed)
        if shape == 4:
            return f"ticks {chance.choice((0, 1, 2, 5, 30, 30, 60, 120, 601))}"
        if shape == 5:
            return f"{chance.choice(('back', 'box', 'calls'))} {chance.choice([*all_numbers(town), '7777', 'x'])}"
        if shape == 6:
            lines = len(office.book())
            return chance.choice(("book", f"line {chance.randrange(lines + 2)}", f"crew {chance.randrange(len(houses) + 1)}"))
        return f"{chance.choice(('near', 'far', 'tape', 'where', 'clear'))} {chance.randrange(len(town[0]) + 1)}"

    def test_by_chance(self):
        chance = Random(231)
        seen = set()
        for _ in range(40):
            town, houses = some_town(chance), some_houses(chance)
            cards = some_cards(chance, houses, chance.sample(all_numbers(town), min(20, len(all_numbers(town)))))
            desk, table = Desk(town, houses, cards), DeskTable(town, houses, cards)
            for _ in range(120):
                row = self.some_row(chance, town, houses, table.office)
                answer = told_or_refused(desk.say, row)
                self.assertEqual(answer, told_or_refused(table.say, row), row)
                seen.add((row.split(" ")[0], answer if isinstance(answer, type) else str))
            for row in ["book"] + [f"line {many}" for many in range(1, len(table.office.book()) + 1)]:
                self.assertEqual(desk.say(row), table.say(row))
            for loop, (near, far) in enumerate(tapes_of(table.office)):
                self.assertEqual(desk.say(f"tape {loop}"), f"{tape_text(near) or '-'} {tape_text(far) or '-'}")
        words = {word for word, kind in seen if kind is str}
        self.assertEqual(words, set("pull wind cut mend join part clear ticks back box near far tape where crew calls book line".split()))


if __name__ == "__main__":
    unittest.main()
