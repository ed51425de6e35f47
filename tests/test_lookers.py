"""Who has the tapes alone: the calls, and whether a thing may be the book [21]."""

import copy
import unittest
from random import Random

from callwheel.lookers import book_stands, calls_told
from callwheel.offices import Office
from books import OUTCOMES, backs_of, calls_of, may_be_book, some_office, tapes_of, told_calls
from tables import all_numbers, some_town
from things import NUMBERS, OTHER_KINDS, WRONG_TEXTS, told_row
from watches import some_cards, some_houses

TOWN = ((("1", "12"), ("3",)), 2, 9)
HOUSES = (0, 1, 1)
CARDS = (("1", (0,), (1, 1, 0), ((2, 0),)), ("3", (1, 0), (1, 1, 1), ()))
ODD = [
    True, False, None, 0, 1, 2, 3, -1, 13, 10 ** 30 - 1, "", "1", "12", "3", "2", "pull", "call", "back", "whole", "waits",
    "Whole", (), [], (0,), [0], (True,), (0, 0), ((2, 0),), ("pull",), ["pull"],
]


def tape_of(*rows):
    """A tape with the rows of numbers that end at ticks: (tick, number) ..; quiet between."""
    signs = ()
    for tick, number in rows:
        row = told_row(number)
        signs += (0,) * (tick + 1 - len(row) - len(signs)) + row
    return signs


def tapes_with(near, far=(), other=(), other_far=None):
    """Tapes of TOWN, all of one length."""
    rows = [near, far, other, other if other_far is None else other_far]
    most = max(len(row) for row in rows)
    near, far, other, other_far = [row + (0,) * (most - len(row)) for row in rows]
    return ((near, far), (other, other_far))


def otherwise(thing, odd):
    """The thing with one part left out, doubled, or put otherwise, at each place of each depth."""
    yield odd
    if type(thing) is int:
        yield from (thing + 1, thing - 1, str(thing), bool(thing))
    elif type(thing) is tuple:
        yield list(thing)
        yield thing[::-1]
        for at, part in enumerate(thing):
            yield thing[:at] + thing[at + 1:]
            yield thing[:at] + (part,) + thing[at:]
            yield thing[:at] + (odd,) + thing[at:]
            for other in otherwise(part, odd):
                yield thing[:at] + (other,) + thing[at + 1:]


class CallsTold(unittest.TestCase):
    def assert_calls(self, tapes, backs, expected, town=TOWN, houses=HOUSES, cards=CARDS):
        handed = (town, houses, cards, tapes, backs)
        before = copy.deepcopy(handed)
        told = calls_told(*handed)
        self.assertEqual(repr(told), repr(expected))
        self.assertEqual(calls_told(*handed), told)
        self.assertEqual(handed, before)

    def test_empty_tapes(self):
        self.assert_calls((((), ()), ((), ())), (), ())
        self.assert_calls((((), ()), ((), ())), ((0, "1"), (0, "1")), ())

    def test_nothing_on_the_tapes(self):
        self.assert_calls(tapes_with((0,) * 30), (), ())
        self.assert_calls(tapes_with((2,) * 30, (2,) * 30), ((0, "1"), (30, "3")), ())

    def test_each_tape_is_heard(self):
        for at in range(4):
            rows = [()] * 4
            rows[at] = tape_of((13, "1"), (23, "1"), (40, "1"))
            self.assert_calls(tapes_with(*rows), (), (("call", 13, "1", 1, (0,), ((2, 0),)), ("call", 40, "1", 2, (), ())))

    def test_each_number_once_at_a_tick(self):
        tape = tape_of((13, "1"), (23, "1"), (40, "1"))
        expected = (("call", 13, "1", 1, (0,), ((2, 0),)), ("call", 40, "1", 2, (), ()))
        self.assert_calls(tapes_with(tape, tape), (), expected)
        self.assert_calls(tapes_with(tape, tape, tape), (), expected)
        self.assert_calls(tapes_with(tape, (), (), tape), (), expected)

    def test_a_tick_apart_it_is_heard_twice(self):
        self.assert_calls(tapes_with(tape_of((13, "1")), tape_of((14, "1"))), (), (("call", 13, "1", 1, (0,), ((2, 0),)),))
        town = (TOWN[0], 1, 5)
        self.assert_calls(tapes_with(tape_of((13, "1")), tape_of((14, "1"))), (), (
            ("call", 13, "1", 1, (0,), ((2, 0),)), ("call", 14, "1", 2, (), ())), town)

    def test_in_the_order_of_texts(self):
        cards = (("3", (0,), (1, 1, 1), ()), ("12", (0,), (1, 1, 1), ()), ("1", (0,), (1, 1, 1), ()))
        tapes = tapes_with(tape_of((20, "3")), tape_of((20, "12")), tape_of((20, "1")))
        self.assert_calls(tapes, (), (
            ("call", 20, "1", 1, (0,), ()), ("call", 20, "12", 1, (), ()), ("call", 20, "3", 1, (), ())), cards=cards)

    def test_a_number_that_is_none_of_the_towns(self):
        self.assert_calls(tapes_with(tape_of((40, "77"))), (), (("call", 40, "77", 1, (), ()),))
        cards = (("77", (2,), (1, 1, 1), ()),)
        self.assert_calls(tapes_with((), (), tape_of((49, "77"))), (), (("call", 49, "77", 1, (2,), ()),), cards=cards)

    def test_backs_are_ahead_of_their_tick(self):
        tape = tape_of((13, "1"), (23, "1"), (40, "1"), (50, "1"))
        first = ("call", 13, "1", 1, (0,), ((2, 0),))
        for tick in range(len(tape) + 1):
            back_counts = 14 <= tick <= 40
            self.assert_calls(tapes_with(tape), ((tick, "1"),), (
                first, ("call", 40, "1", 1, (0,), ((2, 0),)) if back_counts else ("call", 40, "1", 2, (), ())))

    def test_backs_in_turn(self):
        tape = tape_of((13, "1"), (23, "1"), (40, "3"), (60, "3"), (70, "1"))
        tapes = tapes_with(tape)
        self.assert_calls(tapes, ((50, "1"), (50, "3"), (50, "3")), (
            ("call", 13, "1", 1, (0,), ((2, 0),)), ("call", 40, "3", 1, (1,), ()), ("call", 70, "1", 1, (0,), ((2, 0),))))

    def test_one_that_would_be_refused_is_passed_by(self):
        tape = tape_of((13, "1"), (23, "1"), (40, "1"))
        expected = (("call", 13, "1", 1, (0,), ((2, 0),)), ("call", 40, "1", 2, (), ()))
        self.assert_calls(tapes_with(tape), ((0, "1"), (13, "1"), (20, "3"), (40, "77"), (41, "12")), expected)

    def test_two_hundred_backs(self):
        tape = tape_of(*[(20 * (k + 1), "1") for k in range(290)])
        backs = tuple((25 * k, "1") for k in range(200))
        self.assert_calls(tapes_with(tape), backs, told_calls(2, HOUSES, CARDS, tapes_with(tape), backs))

    def test_some_tapes(self):
        chance = Random(211)
        for _ in range(60):
            town, houses = some_town(chance), some_houses(chance)
            numbers = (all_numbers(town) + NUMBERS[:5])[:12]
            cards = some_cards(chance, houses, sorted(set(chance.choices(numbers, k=6))))
            tapes = []
            for _ in range(2 * len(town[0])):
                tape = ()
                while len(tape) < 600:
                    tape += told_row(chance.choice(numbers)) + (chance.choice((0, 2)),) * chance.choice((0, 1, 9))
                tapes.append(tape[:600])
            tapes = tuple(zip(tapes[::2], tapes[1::2]))
            backs = sorted((chance.randrange(601), chance.choice(numbers)) for _ in range(chance.randrange(30)))
            backs = tuple(backs)
            self.assert_calls(tapes, backs, told_calls(town[1], houses, cards, tapes, backs), town, houses, cards)

    def test_the_same_as_the_office(self):
        chance = Random(212)
        for _ in range(30):
            town, houses, cards, office, came = some_office(chance, 50, 60)
            book = office.book()
            self.assert_calls(tapes_of(office), backs_of(book), calls_of(book), town, houses, cards)


def plain_office():
    """An office with pulls, calls, moves and backs; the last pulls are not whole."""
    office = Office(TOWN, HOUSES, CARDS)
    office.pull("1")
    office.pull("3")
    for _ in range(60):
        office.tick()
    office.back("1")
    office.back("3")
    office.pull("1")
    for _ in range(40):
        office.tick()
    office.pull("1")
    for _ in range(6):
        office.tick()
    office.pull("12")
    office.tick()
    return office


class BookStands(unittest.TestCase):
    def setUp(self):
        self.office = plain_office()
        self.book = self.office.book()
        self.tapes = tapes_of(self.office)

    def assert_stands(self, thing, expected):
        handed = (TOWN, HOUSES, CARDS, self.tapes, thing)
        before = copy.deepcopy(handed)
        self.assertIs(may_be_book(*handed), expected, thing)
        self.assertIs(book_stands(*handed), expected, thing)
        self.assertEqual(repr(handed), repr(before))

    def line(self, word, number, which=0):
        """The place of a line of this word and number."""
        return [at for at, line in enumerate(self.book) if (line[0], line[2]) == (word, number)][which]

    def put(self, at, place, part):
        """The book with one part of a line otherwise."""
        line = self.book[at]
        return self.book[:at] + (line[:place] + (part,) + line[place + 1:],) + self.book[at + 1:]

    def test_the_offices_own(self):
        self.assertEqual([line[0] for line in self.book], [
            "pull", "pull", "call", "call", "back", "back", "pull", "call", "pull", "call", "pull"])
        self.assertEqual([line[3:] for line in self.book if line[0] == "pull"], [
            ("whole", (13, 23)), ("whole", (17, 31)), ("whole", (65, 75)), ("waits", (105,)), ("waits", ())])
        self.assert_stands(self.book, True)
        self.assert_stands(self.book, True)

    def test_no_tapes_and_no_book(self):
        self.tapes = (((), ()), ((), ()))
        self.assert_stands((), True)
        self.assert_stands((("pull", 0, "1", "waits", ()),), True)
        self.assert_stands((("pull", 1, "1", "waits", ()),), False)
        self.assert_stands((("pull", 0, "1", "waits", ()), ("pull", 0, "12", "down", ())), True)
        self.assert_stands((("pull", 0, "1", "waits", ()), ("pull", 0, "1", "waits", ())), False)
        self.assert_stands((("back", 0, "1", (), ()),), False)

    def test_without_a_line(self):
        for at, line in enumerate(self.book):
            expected = line[0] == "pull" and line[4] == ()
            self.assert_stands(self.book[:at] + self.book[at + 1:], expected)

    def test_a_line_twice(self):
        for at, line in enumerate(self.book):
            self.assert_stands(self.book[:at] + (line,) + self.book[at:], False)

    def test_a_call_a_tick_later_or_sooner(self):
        for at, line in enumerate(self.book):
            if line[0] == "call":
                self.assert_stands(self.put(at, 1, line[1] + 1), False)
                self.assert_stands(self.put(at, 1, line[1] - 1), False)

    def test_lines_put_elsewhere(self):
        for at in range(len(self.book)):
            for place in range(len(self.book)):
                moved = list(self.book)
                moved.insert(place, moved.pop(at))
                # What came between two ticks may have come in any order: here the two pulls at 0,
                # and at 60 the two backs, who tell the same in either, and the pull.
                among = self.book[min(at, place):max(at, place) + 1]
                free = len({line[1] for line in among}) == 1 and all(line[0] != "call" for line in among)
                self.assert_stands(tuple(moved), free or at == place)

    def test_pulls_and_backs_ahead_of_the_ticks_calls(self):
        call = self.line("call", "1")
        late = ("pull", self.book[call][1], "12", "waits", ())
        book = self.book[:-1]
        self.assert_stands(book, True)
        self.assert_stands(book[:call] + (late,) + book[call:], True)
        self.assert_stands(book[:call + 1] + (late,) + book[call + 1:], False)
        back = ("back", 105, "1", (0,), (2,))
        call = self.line("call", "1", 2)
        self.assertEqual(book[call], ("call", 105, "1", 2, (), ()))
        again = ("call", 105, "1", 1, (0,), ((2, 0),))
        self.assert_stands(book[:call] + (back, again), True)
        self.assert_stands(book[:call] + (again, back), False)
        self.assert_stands(book + (back,), False)

    def test_outcomes(self):
        for at, line in enumerate(self.book):
            if line[0] == "pull":
                for outcome in OUTCOMES:
                    self.assert_stands(self.put(at, 3, outcome), (outcome == "whole") == (line[3] == "whole"))
                for outcome in ("", "Whole", "whole ", "none", None, True, 0, ("whole",), ["whole"], ()):
                    self.assert_stands(self.put(at, 3, outcome), False)

    def test_ends(self):
        at = self.line("pull", "1")
        _, tick, _, _, ends = self.book[at]
        for wrong in ((), ends[:1], ends[1:], ends[::-1], ends + ends[-1:], list(ends), (True, *ends[1:]), (ends[0], str(ends[1])),
                      (ends[0], ends[1] + 1), (ends[0] - 1, ends[1]), (*ends, None), (ends,), None, ends[0]):
            self.assert_stands(self.put(at, 4, wrong), False)

    def test_fewer_ends_than_rounds_by_whole(self):
        at, later = self.line("pull", "1"), self.line("pull", "1", 1)
        ends, more = self.book[at][4], self.book[later][4]
        for first, second in ((ends[:1], ends[1:] + more), (ends + more[:1], more[1:]), (ends + more, ()), ((), ends + more)):
            book = list(self.book)
            book[at] = book[at][:4] + (first,)
            book[later] = ("pull", first[-1] + 1 if first else 0) + book[later][2:4] + (second,)
            self.assert_stands(tuple(sorted(book, key=lambda line: (line[1], line[0] == "call"))), False)

    def test_another_outcome_of_a_pull_that_is_not_the_last_one(self):
        self.tapes = tapes_with(tape_of((13, "1"), (100, "1"), (120, "1")))
        calls = calls_told(TOWN, HOUSES, CARDS, self.tapes, ())
        self.assertEqual([line[1] for line in calls], [13, 120])
        for outcome in OUTCOMES:
            self.assert_stands((("pull", 0, "1", outcome, (13,)), calls[0], ("pull", 50, "1", "whole", (100, 120)), calls[1]), False)
        self.assert_stands((("pull", 0, "1", "whole", (13, 100)), calls[0], ("pull", 101, "1", "waits", (120,)), calls[1]), True)

    def test_an_end_below_its_pulls_tick(self):
        self.tapes = tapes_with(tape_of((13, "1"), (40, "1")))
        (call,) = calls_told(TOWN, HOUSES, CARDS, self.tapes, ())
        for tick in range(14):
            self.assert_stands((("pull", tick, "1", "whole", (13, 40)), call), True)
        self.assert_stands((call, ("pull", 14, "1", "whole", (13, 40))), False)
        self.assert_stands((call, ("pull", 14, "1", "waits", (13, 40))), False)
        self.assert_stands((call, ("pull", 13, "1", "whole", (13, 40))), False)

    def test_a_later_pull_is_behind_the_last_end_of_the_one_ahead(self):
        self.tapes = tapes_with(tape_of((13, "1"), (40, "1"), (60, "1")))
        first, second = calls_told(TOWN, HOUSES, CARDS, self.tapes, ())
        for tick in range(14, 61):
            book = (("pull", 0, "1", "whole", (13, 40)), first, ("pull", tick, "1", "runs", (60,)), second)
            self.assert_stands(book, tick > 40)

    def test_pulls_at_the_bounds(self):
        last = len(self.tapes[0][0])
        self.assertEqual(last, 107)
        for tick in (last - 1, last, last + 1, -1, True):
            self.assert_stands(self.book[:-1] + (("pull", tick, "12", "waits", ()),), tick in (last - 1, last))
        for tick in (0, -1, False):
            self.assert_stands((("pull", tick, "12", "waits", ()),) + self.book[:-1], tick is not False and tick == 0)

    def test_backs(self):
        last = len(self.tapes[0][0])
        for line, expected in (
            (("back", last, "1", (0,), (2,)), True), (("back", last + 1, "1", (0,), (2,)), False), (("back", last, "1", (0,), ()), False),
            (("back", last, "1", (False,), (2,)), False), (("back", last, "1", [0], (2,)), False), (("back", last, "3", (), ()), False),
            (("back", last, "12", (), ()), False), (("back", last, ["1"], (0,), (2,)), False), (("back", last, None, (), ()), False),
            (("back", last, "1", (0,), (2,), ()), False), (("back", last, "1", (0,)), False), (("back", last), False),
            (("back", str(last), "1", (0,), (2,)), False), (("Back", last, "1", (0,), (2,)), False),
        ):
            self.assert_stands(self.book + (line,), expected)
        self.assert_stands(self.book + (("back", last, "1", (0,), (2,)),) * 2, False)

    def test_a_number_that_is_none_of_the_towns(self):
        for tapes in (tapes_with(tape_of((40, "77"))), tapes_with((), (), (), tape_of((40, "77")))):
            self.tapes = tapes
            (call,) = calls_told(TOWN, HOUSES, CARDS, tapes, ())
            self.assert_stands((call,), False)
            self.assert_stands((("pull", 0, "77", "waits", (40,)), call), False)
        self.tapes = (((), ()), ((), ()))
        for number in ("77", "2", "", "0", 1, None, ("1",), ["1"], True):
            self.assert_stands((("pull", 0, number, "waits", ()),), False)

    def test_a_round_without_its_pull(self):
        self.tapes = tapes_with(tape_of((30, "1")), tape_of((30, "1")))
        (call,) = calls_told(TOWN, HOUSES, CARDS, self.tapes, ())
        self.assert_stands((call,), False)
        self.assert_stands((("pull", 0, "1", "waits", ()), call), False)
        self.assert_stands((("pull", 0, "1", "waits", (30,)), call), True)
        self.assert_stands((("pull", 0, "1", "waits", (30, 30)), call), False)

    def test_one_thing_otherwise_at_any_place(self):
        truths = [0, 0]
        for odd in ODD:
            for thing in otherwise(self.book, odd):
                expected = may_be_book(TOWN, HOUSES, CARDS, self.tapes, thing)
                truths[expected] += 1
                self.assertIs(book_stands(TOWN, HOUSES, CARDS, self.tapes, thing), expected, thing)
        self.assertGreater(min(truths), 30)

    def test_any_thing(self):
        things = OTHER_KINDS + WRONG_TEXTS + ODD + [self.tapes, TOWN, CARDS, list(self.book), (self.book,), ((),), (((),),)]
        for thing in things:
            self.assert_stands(thing, False)
            self.assert_stands((*self.book, thing), False)
            self.assert_stands((("call", thing),), False)
        self.tapes = (((), ()), ((), ()))
        for thing in things:
            self.assert_stands(thing, repr(thing) == "()")

    def test_of_each_office(self):
        chance = Random(213)
        for _ in range(25):
            town, houses, cards, office, came = some_office(chance, 45, 60, boxes=chance.choice((1, 2, 4, None)))
            tapes, book = tapes_of(office), office.book()
            self.assertIs(book_stands(town, houses, cards, tapes, book), True)
            others = [thing for odd in chance.sample(ODD, 2) for thing in otherwise(book, odd)]
            for thing in chance.sample(others, min(len(others), 80)):
                expected = may_be_book(town, houses, cards, tapes, thing)
                self.assertIs(book_stands(town, houses, cards, tapes, thing), expected, thing)

    def test_at_each_tick_of_an_office(self):
        office = Office(TOWN, HOUSES, CARDS)
        chance = Random(214)
        for _ in range(300):
            if not chance.randrange(8):
                office.pull(chance.choice(all_numbers(TOWN)))
            called = [number for number in all_numbers(TOWN) if office.calls(number)]
            if called and not chance.randrange(30):
                office.back(called[0])
            self.assertIs(book_stands(TOWN, HOUSES, CARDS, tapes_of(office), office.book()), True)
            office.tick()

    def test_a_long_book(self):
        chance = Random(215)
        town, houses, cards, office, came = some_office(chance, 200, 60, boxes=2, loops=4, spring=50, rounds=1)
        book, tapes = office.book(), tapes_of(office)
        self.assertGreater(len(book), 80)
        self.assertIs(book_stands(town, houses, cards, tapes, book), True)
        self.assertIs(book_stands(town, houses, cards, tapes, book + (0,) * 3000), False)


if __name__ == "__main__":
    unittest.main()
