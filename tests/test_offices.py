"""Offices: a line and a watch as one, and the book [20]."""

import copy
import unittest
from random import Random

from callwheel import errors
from callwheel.crews import Watch
from callwheel.lines import Line
from callwheel.offices import Office
from callwheel.wires import dumb_numbers
from books import backs_of, ends_on, some_office, tapes_of
from tables import NO_TOWNS, all_numbers, done, some_deed, some_town
from things import NUMBERS, OTHER_KINDS, WRONG_TEXTS, told_or_refused, told_row
from watches import NO_CARDS, some_cards, some_houses

TOWN = ((("12", "3", "4567"), ("1",), ("21", "996")), 2, 5)
HOUSES = (0, 1, 1, 2)
CARDS = (("12", (0, 3), (1, 1, 1), ((2, 0),)), ("1", (3, 1), (2, 1, 0), ((2, 2),)))


def state(office, town=TOWN, houses=HOUSES):
    """All that an office tells."""
    numbers = all_numbers(town)
    return (
        office.clock(), office.book(), [office.box(number) for number in numbers], tapes_of(office), office.cuts(),
        office.is_joined(), [office.crew(k) for k in range(len(houses))], [office.calls(number) for number in numbers],
    )


def ticks(office, many):
    return [(office.clock() - 1, number) for _ in range(many) for number in office.tick()]


class Beside:
    """A line and a watch of their own, and the book by the words of [20], read once more."""

    def __init__(self, town, houses, cards):
        self.town = town
        self.line, self.watch = Line(town), Watch(town[1], houses, cards)
        self.lines = []

    def deed(self, word, *things):
        if word == "tick":
            return self.tick()
        if word == "back":
            answer = told_or_refused(self.watch.back, *things)
            if isinstance(answer, tuple):
                self.lines.append(["back", self.line.clock(), things[0], *answer])
            return answer
        answer = told_or_refused(getattr(self.line, word), *things)
        if word == "pull" and answer is True:
            self.lines.append(["pull", self.line.clock(), things[0], []])
        return answer

    def tick(self):
        at = self.line.clock()
        numbers = self.line.tick()
        for number in numbers:
            last = [line for line in self.lines if line[0] == "pull" and line[2] == number][-1]
            last[3].append(at)
            call = self.watch.heard(number)
            if call:
                self.lines.append(["call", at, number, *call])
        return numbers

    def outcome(self, number, ends):
        _, _, spring, place, _ = self.line.box(number)
        reasons = [
            ("whole", len(ends) == self.town[1]), ("dumb", number in dumb_numbers(self.town, self.line.cuts())),
            ("down", spring == 0), ("runs", place is not None), ("waits", True),
        ]
        return [word for word, holds in reasons if holds][0]

    def book(self):
        return tuple(
            (*line[:3], self.outcome(line[2], line[3]), tuple(line[3])) if line[0] == "pull" else tuple(line)
            for line in self.lines
        )


class Offices(unittest.TestCase):
    def assert_refused(self, name, call, *things):
        self.assertIs(told_or_refused(call, *things), getattr(errors, name), things)

    def assert_tuples_alone(self, thing):
        """Told tuples of tuples hold no list; the rest are texts and whole numbers."""
        if type(thing) is tuple:
            for part in thing:
                self.assert_tuples_alone(part)
        else:
            self.assertIn(type(thing), (int, str))


class New(Offices):
    def test_a_new_office(self):
        office = Office(TOWN, HOUSES, CARDS)
        self.assertEqual(office.book(), ())
        self.assertEqual((office.clock(), office.cuts(), office.is_joined()), (0, ((), (), ()), False))
        self.assertEqual(tapes_of(office), (((), ()),) * 3)
        self.assertEqual([office.crew(k) for k in range(4)], [("in", 0), ("in", 1), ("in", 1), ("in", 2)])
        for number in all_numbers(TOWN):
            self.assertEqual((office.box(number), office.calls(number)), ((0, 0, 5, None, 0), 0))

    def test_no_town_ahead_of_no_cards(self):
        for thing in NO_TOWNS:
            self.assert_refused("NoTown", Office, thing, HOUSES, CARDS)
            self.assert_refused("NoTown", Office, thing, None, None)
        for houses, cards in NO_CARDS:
            self.assert_refused("NoCards", Office, TOWN, houses, cards)
            self.assert_refused("NoTown", Office, TOWN[:2], houses, cards)

    def test_two_offices(self):
        one, other = Office(TOWN, HOUSES, CARDS), Office(TOWN, HOUSES, CARDS)
        fresh = state(other)
        one.pull("12")
        one.cut(1, 0)
        ticks(one, 60)
        one.back("12")
        one.join()
        self.assertEqual(state(other), fresh)
        before = state(one)
        other.pull("1")
        ticks(other, 60)
        self.assertEqual(state(one), before)

    def test_what_was_handed_in_stays(self):
        handed = copy.deepcopy((TOWN, HOUSES, CARDS))
        office = Office(*handed)
        office.pull("12")
        ticks(office, 60)
        office.back("12")
        self.assertEqual(handed, (TOWN, HOUSES, CARDS))


class Book(Offices):
    def test_one_pull(self):
        office = Office(TOWN, HOUSES, CARDS)
        ticks(office, 3)
        self.assertIs(office.pull("3"), True)
        self.assertEqual(office.book(), (("pull", 3, "3", "waits", ()),))
        row = len(told_row("3"))
        ticks(office, 6)
        self.assertEqual(office.book(), (("pull", 3, "3", "runs", ()),))
        first = 8 + row - 1
        ticks(office, first + 1 - office.clock())
        self.assertEqual(office.book(), (("pull", 3, "3", "waits", (first,)), ("call", first, "3", 1, (), ())))
        ticks(office, 4 + row)
        second = first + 4 + row
        self.assertEqual(office.book(), (("pull", 3, "3", "whole", (first, second)), ("call", first, "3", 1, (), ())))

    def test_a_pull_that_changes_nothing_is_not_in_it(self):
        office = Office(TOWN, HOUSES, CARDS)
        office.pull("3")
        self.assertIs(office.pull("3"), False)
        ticks(office, 10)
        self.assertIs(office.pull("3"), False)
        self.assertEqual(len(office.book()), 1)
        ticks(office, 100)
        self.assertIs(office.pull("3"), True)
        self.assertEqual([line[:4] for line in office.book() if line[0] == "pull"],
                         [("pull", 0, "3", "whole"), ("pull", 110, "3", "waits")])

    def test_calls_and_backs_in_the_order_in_which_they_came(self):
        office = Office(TOWN, HOUSES, CARDS)
        office.pull("1")
        office.pull("12")
        ticks(office, 100)
        self.assertEqual(office.back("1"), ((1, 3), ()))
        self.assertEqual(office.back("12"), ((0,), ()))
        office.pull("1")
        ticks(office, 100)
        self.assertEqual(office.back("1"), ((1, 3), ()))
        self.assertEqual(office.book(), (
            ("pull", 0, "1", "whole", (13, 23)), ("pull", 0, "12", "whole", (19, 35)),
            ("call", 13, "1", 1, (3, 1), ()), ("call", 19, "12", 1, (0,), ()),
            ("back", 100, "1", (1, 3), ()), ("back", 100, "12", (0,), ()),
            ("pull", 100, "1", "whole", (105, 115)), ("call", 105, "1", 1, (3, 1), ()), ("back", 200, "1", (1, 3), ()),
        ))

    def test_moves(self):
        office = Office(TOWN, (0, 1, 1), (("1", (0,), (1, 1, 1), ((2, 0),)),))
        office.pull("1")
        ticks(office, 30)
        self.assertEqual(office.back("1"), ((0,), (2,)))
        self.assertEqual(office.book()[1:], (("call", 13, "1", 1, (0,), ((2, 0),)), ("back", 30, "1", (0,), (2,))))

    def test_several_rounds_at_one_tick_are_heard_in_the_order_of_texts(self):
        town = ((("41",), ("14",), ("23",)), 1, 5)
        office = Office(town, (0,), tuple((number, (0,), (1, 1, 1), ()) for number in ("41", "23", "14")))
        for number in ("41", "23", "14"):
            office.pull(number)
        end = ticks(office, 60)[0][0]
        self.assertEqual([line for line in office.book() if line[0] == "call"], [
            ("call", end, "14", 1, (0,), ()), ("call", end, "23", 1, (), ()), ("call", end, "41", 1, (), ())])

    def test_asked_twice_and_told_earlier(self):
        office = Office(TOWN, HOUSES, CARDS)
        told_books = []
        for number in ("12", "1", "3"):
            office.pull(number)
            for _ in range(30):
                office.tick()
                book = office.book()
                self.assertEqual(office.book(), book)
                told_books.append((book, copy.deepcopy(book)))
        for book, copied in told_books:
            self.assertEqual(book, copied)
            self.assert_tuples_alone(book)


class Outcomes(Offices):
    def outcome(self, office):
        return office.book()[0][3]

    def test_waits_and_runs_and_whole(self):
        office = Office(((("1", "2"),), 1, 5), (0,), ())
        office.pull("1")
        outcomes = []
        for _ in range(16):
            outcomes.append(self.outcome(office))
            office.tick()
        self.assertEqual(outcomes, ["waits"] * 9 + ["runs"] * 5 + ["whole"] * 2)

    def test_steps_back_and_waits(self):
        office = Office(((("1", "2"),), 1, 5), (0,), ())
        office.pull("1")
        office.pull("2")
        ticks(office, 10)
        self.assertEqual(self.outcome(office), "runs")
        ticks(office, 1)
        self.assertEqual(self.outcome(office), "waits")

    def test_down(self):
        office = Office(((("1", "2"),), 3, 2), (0,), ())
        office.pull("1")
        ticks(office, 23)
        self.assertEqual(self.outcome(office), "runs")
        ticks(office, 1)
        self.assertEqual(self.outcome(office), "down")
        office.wind("1")
        self.assertEqual(self.outcome(office), "waits")

    def test_whole_ahead_of_all_others(self):
        office = Office(((("1", "2"),), 2, 2), (0,), ())
        office.pull("1")
        ticks(office, 50)
        self.assertEqual(office.box("1")[2], 0)
        self.assertEqual(self.outcome(office), "whole")
        office.cut(0, 0)
        office.cut(0, 1)
        self.assertEqual(self.outcome(office), "whole")

    def test_dumb_ahead_of_down_and_runs(self):
        office = Office(((("1", "2"),), 3, 2), (0,), ())
        office.pull("1")
        ticks(office, 11)
        self.assertEqual(self.outcome(office), "runs")
        office.cut(0, 0)
        self.assertEqual(self.outcome(office), "runs")
        office.cut(0, 1)
        self.assertEqual(office.box("1")[3], 3)
        self.assertEqual(self.outcome(office), "dumb")
        ticks(office, 20)
        self.assertEqual(self.outcome(office), "dumb")
        office.mend(0, 1)
        self.assertEqual(self.outcome(office), "waits")
        ticks(office, 50)
        self.assertEqual(self.outcome(office), "down")
        office.cut(0, 2)
        self.assertEqual(self.outcome(office), "dumb")

    def test_only_the_last_pull_of_a_number_may_be_otherwise(self):
        office = Office(((("1", "2"),), 1, 2), (0,), ())
        for _ in range(3):
            office.pull("1")
            ticks(office, 40)
        pulls = [line for line in office.book() if line[0] == "pull"]
        self.assertEqual([line[3] for line in pulls], ["whole", "whole", "down"])
        office.cut(0, 0)
        office.cut(0, 1)
        pulls = [line for line in office.book() if line[0] == "pull"]
        self.assertEqual([line[3] for line in pulls], ["whole", "whole", "dumb"])


class AsALineAndAWatch(Offices):
    def some_words(self, chance, town, office):
        """A deed by chance, perhaps one that is refused."""
        shape = chance.randrange(10)
        if shape == 0:
            thing = chance.choice(["", "7777", 1, None, ("1",), ["1"], True])
            return (chance.choice(("pull", "wind", "box", "back")), thing)
        if shape == 1:
            return (chance.choice(("cut", "mend")), chance.randrange(-1, 5), chance.randrange(-1, 14))
        if shape == 2:
            return (chance.choice(("clear", "near_tape", "far_tape")), chance.randrange(-1, 5))
        if shape == 3:
            return (chance.choice(("join", "part")),)
        if shape == 4:
            return ("back", chance.choice(all_numbers(town)))
        return some_deed(chance, town, office.cuts(), office.is_joined()) or ("tick",)

    def test_each_deed_tells_or_is_refused_as_there(self):
        chance = Random(201)
        for _ in range(25):
            town, houses = some_town(chance), some_houses(chance)
            cards = some_cards(chance, houses, chance.sample(all_numbers(town), min(20, len(all_numbers(town)))))
            office, beside = Office(town, houses, cards), Beside(town, houses, cards)
            for _ in range(50):
                words = self.some_words(chance, town, office)
                before = state(office, town, houses)
                answer = told_or_refused(getattr(office, words[0]), *words[1:])
                self.assertEqual(answer, beside.deed(*words), words)
                if isinstance(answer, type):
                    self.assertEqual(state(office, town, houses), before)
                self.assertEqual(office.book(), beside.book())
                for _ in range(chance.choice((0, 1, 10, 40))):
                    self.assertEqual(office.tick(), beside.tick())
                self.assertEqual(office.book(), beside.book())
                self.assertEqual(state(office, town, houses)[2:3], ([beside.line.box(n) for n in all_numbers(town)],))
            line, watch = beside.line, beside.watch
            self.assertEqual(
                (office.clock(), office.cuts(), office.is_joined()), (line.clock(), line.cuts(), line.is_joined()))
            self.assertEqual(tapes_of(office), tapes_of(line))
            self.assertEqual([office.crew(k) for k in range(len(houses))], [watch.crew(k) for k in range(len(houses))])
            self.assertEqual([office.calls(number) for number in NUMBERS[:90]], [watch.calls(number) for number in NUMBERS[:90]])

    def test_the_deeds_of_a_line_tell_none(self):
        office = Office(TOWN, HOUSES, CARDS)
        for deed in (("wind", "12"), ("cut", 0, 1), ("mend", 0, 1), ("join",), ("part",), ("clear", 2)):
            self.assertIsNone(done(office, deed))

    def test_refusals(self):
        office = Office(TOWN, HOUSES, CARDS)
        office.pull("12")
        ticks(office, 60)
        office.cut(0, 1)
        before = state(office)
        for thing in OTHER_KINDS + WRONG_TEXTS + ["2", ("12",), ["12"]]:
            for word in ("pull", "wind", "box"):
                self.assert_refused("NoBox", getattr(office, word), thing)
            self.assert_refused("NoCall", office.back, thing)
            self.assertEqual(office.calls(thing), 0)
        for loop in (-1, 3, 10 ** 30 - 1):
            for word in ("clear", "near_tape", "far_tape"):
                self.assert_refused("NoLoop", getattr(office, word), loop)
            self.assert_refused("NoLoop", office.cut, loop, 99)
            self.assert_refused("NoLoop", office.mend, loop, 99)
        for stretch in (-1, 1, 4):
            self.assert_refused("NoStretch", office.cut, 0, stretch)
        for stretch in (-1, 0, 4):
            self.assert_refused("NoStretch", office.mend, 0, stretch)
        self.assert_refused("NoDeed", office.part)
        self.assertEqual(state(office), before)
        # The key is held for two ticks by the cut alone.
        ticks(office, 4)
        self.assertEqual(office.near_tape(0)[60:], (2, 2, 0, 0))


class TheWhole(Offices):
    def test_rounds_on_the_tapes_are_those_that_ticks_told_and_the_ends_of_pulls(self):
        chance = Random(202)
        for _ in range(25):
            town, houses, cards, office, came = some_office(chance, 50, 60)
            ends = [(end, line[2]) for line in office.book() if line[0] == "pull" for end in line[4]]
            self.assertEqual(ends_on(tapes_of(office)), came)
            self.assertEqual(sorted(ends), came)
            self.assertEqual(list(backs_of(office.book())), sorted(backs_of(office.book()), key=lambda back: back[0]))

    def test_nobody_is_sent_twice_or_to_two_places(self):
        chance = Random(203)
        for _ in range(25):
            town, houses, cards, office, came = some_office(chance, 60, 60, boxes=4)
            out = {}
            for line in office.book():
                if line[0] == "call":
                    for crew in line[4]:
                        self.assertNotIn(crew, out)
                        out[crew] = line[2]
                elif line[0] == "back":
                    self.assertEqual([crew for crew in sorted(out) if out[crew] == line[2]], list(line[3]))
                    out = {crew: number for crew, number in out.items() if number != line[2]}
            for crew in range(len(houses)):
                stand = office.crew(crew)
                self.assertEqual(stand[0] == "out", crew in out)
                if crew in out:
                    self.assertEqual(stand[1], out[crew])


if __name__ == "__main__":
    unittest.main()
