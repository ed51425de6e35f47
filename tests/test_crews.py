"""Crews: houses and cards [17], and a watch that hears, sends, covers and calls back [18, 19]."""

import copy
import unittest
from random import Random

from callwheel import errors
from callwheel.crews import Watch, are_cards
from things import NUMBERS, OTHER_KINDS, WRONG_TEXTS, told_number
from watches import WatchTable, some_cards, some_houses

HOUSES = (3, 0, 3, 8)
CARD = ("12", (2, 0, 3), (1, 2, 9), ((1, 3), (0, 8)))
CARDS = (CARD, ("3", (), (0, 0, 0), ()))
ODD = [True, False, None, -1, 9, 4, "", "12", "0", "1", (), [], (0,), [0], ((),), [[]], 10 ** 30 - 1, 1 - 10 ** 30]


def told_whole(thing, low, high):
    return type(thing) is int and low <= thing <= high


def told_cards(houses, cards):
    """Whether two things are houses and cards by the words of [17], read once more."""
    if type(houses) is not tuple or not 1 <= len(houses) <= 9 or not all(told_whole(house, 0, 8) for house in houses):
        return False
    if type(cards) is not tuple or len(cards) > 20:
        return False
    return all(told_card(houses, card) for card in cards) and len({card[0] for card in cards}) == len(cards)


def told_card(houses, card):
    if type(card) is not tuple or len(card) != 4 or not told_number(card[0]):
        return False
    if not all(type(part) is tuple for part in card[1:]):
        return False
    crews = len(houses) - 1
    _, order, counts, covers = card
    return (
        all(told_whole(crew, 0, crews) for crew in order) and len(set(order)) == len(order)
        and len(counts) == 3 and all(told_whole(many, 0, 9) for many in counts)
        and len(covers) <= 9 and all(
            type(cover) is tuple and len(cover) == 2 and told_whole(cover[0], 0, crews)
            and type(cover[1]) is int and cover[1] in houses for cover in covers)
    )


def otherwise(thing, odd):
    """The thing with one part put otherwise, left out or doubled, at each place of each depth."""
    yield odd
    if isinstance(thing, tuple):
        yield list(thing)
        for at, part in enumerate(thing):
            yield thing[:at] + thing[at + 1:]
            yield thing[:at] + (part,) + thing[at:]
            for other in otherwise(part, odd):
                yield thing[:at] + (other,) + thing[at + 1:]


class AreCards(unittest.TestCase):
    def assert_told(self, houses, cards, expected):
        before = copy.deepcopy((houses, cards))
        self.assertIs(are_cards(houses, cards), expected, (houses, cards))
        self.assertEqual((houses, cards), before)

    def test_plain_ones(self):
        self.assert_told(HOUSES, CARDS, True)
        self.assert_told((0,), (), True)
        self.assert_told((8,) * 9, (("1", (0,), (9, 9, 9), ()),), True)

    def test_how_many_houses(self):
        for many in range(12):
            self.assert_told((1,) * many, (), 1 <= many <= 9)

    def test_each_house(self):
        for house in range(-2, 11):
            self.assert_told((0, house), (), 0 <= house <= 8)

    def test_how_many_cards(self):
        for many in (0, 1, 19, 20, 21, 22, 500):
            self.assert_told(HOUSES, tuple((number, (0,), (1, 1, 1), ()) for number in NUMBERS[:many]), many <= 20)

    def test_each_number(self):
        for number in ("1", "9951", "6666", "1111", "996", "0", "10", "997", "", "12345", 1, None, ("1",), ["1"]):
            self.assert_told(HOUSES, ((number, (0,), (1, 1, 1), ()),), told_number(number))

    def test_a_number_twice(self):
        others = tuple((number, (0,), (1, 1, 1), ()) for number in NUMBERS[:5])
        for at in range(6):
            self.assert_told(HOUSES, others[:at] + (("99", (), (0, 0, 0), ()),) + others[at:], True)
            for number in NUMBERS[:5]:
                self.assert_told(HOUSES, others[:at] + ((number, (1,), (2, 2, 2), ()),) + others[at:], False)

    def test_orders(self):
        for order in ((), (0,), (3,), (0, 1, 2, 3), (3, 1, 0, 2)):
            self.assert_told(HOUSES, (("1", order, (1, 1, 1), ()),), True)
        for order in ((4,), (-1,), (0, 0), (0, 1, 2, 3, 0), (1, 2, 1), (True,), (0, True), (1, True), ("0",), [0], [], 0, None, "", "12"):
            self.assert_told(HOUSES, (("1", order, (1, 1, 1), ()),), False)
        self.assert_told((0,) * 9, (("1", (8, 7, 6, 5, 4, 3, 2, 1, 0), (1, 1, 1), ()),), True)
        self.assert_told((0,), (("1", (1,), (1, 1, 1), ()),), False)

    def test_counts(self):
        for counts in ((0, 0, 0), (9, 9, 9), (9, 0, 5)):
            self.assert_told(HOUSES, (("1", (0,), counts, ()),), True)
        for counts in ((10, 0, 0), (0, 10, 0), (0, 0, 10), (-1, 0, 0), (0, 0, -1), (0, 0), (0, 0, 0, 0), (), (True, 0, 0),
                       (0, 0, False), [0, 0, 0], ("0", 0, 0), (None, 0, 0), ((), 0, 0), 3, None):
            self.assert_told(HOUSES, (("1", (0,), counts, ()),), False)

    def test_covers(self):
        for covers in ((), ((0, 3),), ((0, 8), (3, 0)), ((0, 3),) * 9, ((3, 8), (3, 8))):
            self.assert_told(HOUSES, (("1", (0,), (1, 1, 1), covers),), True)
        for covers in (((0, 3),) * 10, ((4, 3),), ((-1, 3),), ((0, 1),), ((0, 9),), ((0, -1),), ((0,),), ((0, 3, 3),), (0, 3),
                       ((True, 3),), ((0, False),), ([0, 3],), [(0, 3)], [], ("03",), (None,), ((),), None, ""):
            self.assert_told(HOUSES, (("1", (0,), (1, 1, 1), covers),), False)

    def test_true_stands_for_no_house(self):
        self.assert_told((1, 2), (("1", (0,), (1, 1, 1), ((0, 1),)),), True)
        self.assert_told((1, 2), (("1", (0,), (1, 1, 1), ((0, True),)),), False)
        self.assert_told((True, 2), (), False)
        self.assert_told((1, False), (), False)

    def test_any_two_things(self):
        things = OTHER_KINDS + WRONG_TEXTS + [HOUSES, CARDS, CARD, (CARD, CARD), list(HOUSES), list(CARDS)]
        for thing in things:
            self.assert_told(thing, CARDS, thing == HOUSES)
            self.assert_told(HOUSES, thing, told_cards(HOUSES, thing))
            self.assert_told(thing, (), told_cards(thing, ()))
            for other in things[::3]:
                self.assert_told(thing, other, told_cards(thing, other))

    def test_one_part_otherwise(self):
        truths = set()
        for odd in ODD:
            for houses in otherwise(HOUSES, odd):
                self.assert_told(houses, CARDS, told_cards(houses, CARDS))
            for cards in otherwise(CARDS, odd):
                truths.add(told_cards(HOUSES, cards))
                self.assert_told(HOUSES, cards, told_cards(HOUSES, cards))
        self.assertEqual(truths, {True, False})

    def test_by_chance(self):
        chance = Random(171)
        for _ in range(100):
            houses = some_houses(chance)
            self.assert_told(houses, some_cards(chance, houses, chance.sample(NUMBERS, chance.randrange(21))), True)


class Watches(unittest.TestCase):
    def assert_refused(self, name, call, *told):
        with self.assertRaises(errors.WheelError) as refused:
            call(*told)
        self.assertIs(type(refused.exception), getattr(errors, name), told)

    def state(self, watch, houses=HOUSES):
        return [watch.crew(k) for k in range(len(houses))], [watch.calls(number) for number in NUMBERS[:99]]


class Hearing(Watches):
    def test_a_new_watch(self):
        for rounds in (1, 2, 3, 4):
            watch = Watch(rounds, HOUSES, CARDS)
            self.assertEqual([watch.crew(k) for k in range(4)], [("in", 3), ("in", 0), ("in", 3), ("in", 8)])
            self.assertEqual([watch.calls(number) for number in ("12", "3", "9")], [0, 0, 0])

    def test_no_cards(self):
        for thing in OTHER_KINDS + WRONG_TEXTS:
            if not told_cards(thing, ()):
                self.assert_refused("NoCards", Watch, 1, thing, ())
            if not told_cards(HOUSES, thing):
                self.assert_refused("NoCards", Watch, 4, HOUSES, thing)
        for cards in otherwise(CARDS, True):
            if not told_cards(HOUSES, cards):
                self.assert_refused("NoCards", Watch, 2, HOUSES, cards)

    def test_the_first_of_each_so_many_rounds(self):
        for rounds in (1, 2, 3, 4):
            watch = Watch(rounds, HOUSES, CARDS)
            for heard in range(20):
                for number in ("3", "77", "1"):
                    told = watch.heard(number)
                    call = heard % rounds == 0
                    self.assertEqual(told, (min(3, heard // rounds + 1), (), ()) if call else ())
                    self.assertEqual(watch.calls(number), heard // rounds + 1)

    def test_numbers_are_counted_each_for_itself(self):
        watch = Watch(2, HOUSES, CARDS)
        self.assertEqual(watch.heard("3"), (1, (), ()))
        self.assertEqual(watch.heard("7"), (1, (), ()))
        self.assertEqual([watch.heard("3"), watch.heard("7")], [(), ()])
        self.assertEqual(watch.heard("7"), (2, (), ()))
        self.assertEqual([watch.calls("3"), watch.calls("7")], [1, 2])

    def test_levels_behind_a_calling_back(self):
        watch = Watch(2, HOUSES, CARDS)
        watch.heard("3")
        watch.back("3")
        # The rounds are counted since the beginning, so the next one is no call yet.
        self.assertEqual(watch.heard("3"), ())
        self.assertEqual(watch.heard("3"), (1, (), ()))
        self.assertEqual([watch.heard("3"), watch.heard("3")], [(), (2, (), ())])

    def test_crews_by_levels(self):
        watch = Watch(1, (0,) * 9, (("1", (8, 3, 5, 0, 1, 2), (2, 0, 1), ()),))
        self.assertEqual(watch.heard("1"), (1, (8, 3), ()))
        self.assertEqual(watch.heard("1"), (2, (), ()))
        self.assertEqual(watch.heard("1"), (3, (5,), ()))
        self.assertEqual(watch.heard("1"), (3, (0,), ()))
        self.assertEqual(watch.heard("1"), (3, (1,), ()))
        self.assertEqual(watch.heard("1"), (3, (2,), ()))
        self.assertEqual(watch.heard("1"), (3, (), ()))
        self.assertEqual(watch.calls("1"), 7)
        self.assertEqual([watch.crew(k)[0] for k in range(9)], ["out"] * 4 + ["in", "out", "in", "in", "out"])

    def test_all_that_are_in_where_they_are_fewer(self):
        watch = Watch(1, (0, 0, 0), (("1", (2, 0), (9, 9, 9), ()), ("2", (0, 1, 2), (3, 3, 3), ())))
        self.assertEqual(watch.heard("1"), (1, (2, 0), ()))
        self.assertEqual(watch.heard("2"), (1, (1,), ()))
        self.assertEqual([watch.crew(k) for k in range(3)], [("out", "1"), ("out", "2"), ("out", "1")])
        self.assertEqual(watch.heard("2"), (2, (), ()))

    def test_nobody_without_a_card(self):
        watch = Watch(1, HOUSES, CARDS)
        for level in (1, 2, 3, 3):
            self.assertEqual(watch.heard("9"), (level, (), ()))
        self.assertEqual([watch.crew(k)[0] for k in range(4)], ["in"] * 4)


class Covers(Watches):
    def test_done(self):
        watch = Watch(1, (0, 1, 1), (("1", (0,), (1, 1, 1), ((2, 0),)),))
        self.assertEqual(watch.heard("1"), (1, (0,), ((2, 0),)))
        self.assertEqual(watch.crew(2), ("in", 0))

    def test_a_crew_is_in_at_the_house(self):
        watch = Watch(1, (0, 0, 1, 1), (("1", (0,), (1, 1, 1), ((2, 0),)),))
        self.assertEqual(watch.heard("1"), (1, (0,), ()))
        self.assertEqual(watch.crew(2), ("in", 1))

    def test_a_crew_of_another_house_is_in_at_the_house(self):
        watch = Watch(1, (0, 1, 1, 1), (("1", (0,), (1, 1, 1), ((2, 0), (3, 0))),))
        self.assertEqual(watch.heard("1"), (1, (0,), ((2, 0),)))
        self.assertEqual(watch.heard("1"), (2, (), ()))

    def test_the_crew_is_out(self):
        watch = Watch(1, (0, 1, 1), (("1", (0, 2), (2, 2, 2), ((2, 0),)),))
        self.assertEqual(watch.heard("1"), (1, (0, 2), ()))

    def test_nobody_would_be_left_behind(self):
        watch = Watch(1, (0, 1), (("1", (0,), (1, 1, 1), ((1, 0),)),))
        self.assertEqual(watch.heard("1"), (1, (0,), ()))
        watch = Watch(1, (0, 1, 1), (("1", (0, 1), (2, 2, 2), ((2, 0),)),))
        self.assertEqual(watch.heard("1"), (1, (0, 1), ()))

    def test_in_turn(self):
        houses = (0, 1, 2, 2, 2)
        watch = Watch(1, houses, (("1", (0, 1), (2, 2, 2), ((2, 0), (3, 1), (4, 1))),))
        self.assertEqual(watch.heard("1"), (1, (0, 1), ((2, 0), (3, 1))))
        watch = Watch(1, houses, (("1", (0, 1), (2, 2, 2), ((2, 0), (3, 0), (3, 1), (4, 1))),))
        self.assertEqual(watch.heard("1"), (1, (0, 1), ((2, 0), (3, 1))))

    def test_to_the_house_where_it_is(self):
        watch = Watch(1, (0, 1, 1), (("1", (0,), (1, 1, 1), ((1, 1), (2, 1))),))
        self.assertEqual(watch.heard("1"), (1, (0,), ()))

    def test_from_another_house_on(self):
        cards = (("1", (0,), (1, 1, 1), ((3, 0),)), ("2", (1,), (1, 1, 1), ((3, 1),)), ("3", (), (0, 0, 0), ((2, 0), (3, 1))))
        watch = Watch(1, (0, 1, 2, 2, 2), cards)
        self.assertEqual(watch.heard("1"), (1, (0,), ((3, 0),)))
        # Crew 3 is alone at house 0 and stays.
        self.assertEqual(watch.heard("2"), (1, (1,), ()))
        self.assertEqual(watch.heard("3"), (1, (), ()))
        self.assertEqual(watch.crew(3), ("in", 0))

    def test_also_where_nobody_went(self):
        cards = (("1", (0,), (1, 0, 0), ()), ("2", (), (0, 0, 0), ((2, 0),)))
        watch = Watch(1, (0, 1, 1), cards)
        self.assertEqual(watch.heard("2"), (1, (), ()))
        self.assertEqual(watch.heard("1"), (1, (0,), ()))
        self.assertEqual(watch.heard("2"), (2, (), ((2, 0),)))

    def test_none_where_it_is_no_call(self):
        watch = Watch(2, (0, 1, 1), (("1", (0,), (1, 0, 0), ()), ("2", (), (0, 0, 0), ((2, 0),))))
        watch.heard("2")
        watch.heard("1")
        self.assertEqual(watch.heard("2"), ())
        self.assertEqual(watch.crew(2), ("in", 1))


class Back(Watches):
    def test_no_call(self):
        watch = Watch(1, HOUSES, CARDS)
        watch.heard("12")
        before = self.state(watch)
        for thing in OTHER_KINDS + WRONG_TEXTS + ["1", "3", "21", ("12",), ["12"]]:
            self.assert_refused("NoCall", watch.back, thing)
        self.assertEqual(self.state(watch), before)
        watch.back("12")
        self.assert_refused("NoCall", watch.back, "12")
        watch.heard("12")
        watch.heard("12")
        watch.back("12")
        self.assert_refused("NoCall", watch.back, "12")

    def test_who_was_out(self):
        watch = Watch(1, HOUSES, (("12", (3, 2, 0), (2, 1, 0), ()), ("3", (1,), (1, 1, 1), ())))
        watch.heard("12")
        watch.heard("3")
        watch.heard("12")
        told = watch.back("12")
        self.assertEqual(told, ((0, 2, 3), ()))
        self.assertEqual([type(told), type(told[0]), type(told[1])], [tuple] * 3)
        self.assertEqual([watch.crew(k) for k in range(4)], [("in", 3), ("out", "3"), ("in", 3), ("in", 8)])
        self.assertEqual([watch.calls("12"), watch.calls("3")], [0, 1])
        self.assertEqual(watch.back("3"), ((1,), ()))

    def test_nobody_was_out(self):
        watch = Watch(1, HOUSES, CARDS)
        watch.heard("9")
        self.assertEqual(watch.back("9"), ((), ()))

    def test_who_went_home(self):
        watch = Watch(1, (0, 1, 1), (("1", (0,), (1, 1, 1), ((2, 0),)),))
        watch.heard("1")
        self.assertEqual(watch.back("1"), ((0,), (2,)))
        self.assertEqual([watch.crew(k) for k in range(3)], [("in", 0), ("in", 1), ("in", 1)])

    def test_home_from_several_houses(self):
        cards = (("1", (0, 1), (2, 2, 2), ((4, 0), (3, 1))),)
        watch = Watch(1, (0, 1, 2, 2, 2), cards)
        self.assertEqual(watch.heard("1"), (1, (0, 1), ((4, 0), (3, 1))))
        self.assertEqual(watch.back("1"), ((0, 1), (3, 4)))

    def test_it_stays_while_that_houses_crew_is_out(self):
        cards = (("1", (0,), (1, 1, 1), ((2, 0),)), ("2", (), (0, 0, 0), ()))
        watch = Watch(1, (0, 1, 1), cards)
        watch.heard("1")
        watch.heard("2")
        self.assertEqual(watch.back("2"), ((), ()))
        self.assertEqual(watch.crew(2), ("in", 0))
        self.assertEqual(watch.back("1"), ((0,), (2,)))

    def test_in_turn_by_who_is_in_by_then(self):
        # Crew 1 (of house 1) covers house 0; crew 2 (of house 2) covers house 1.
        cards = (("1", (0,), (1, 1, 1), ((1, 0),)), ("2", (3,), (1, 1, 1), ((2, 1),)))
        watch = Watch(1, (0, 1, 2, 1, 2), cards)
        self.assertEqual(watch.heard("1"), (1, (0,), ((1, 0),)))
        self.assertEqual(watch.heard("2"), (1, (3,), ((2, 1),)))
        # Crew 1 goes home, so that by then a crew of house 1 is in there, and crew 2 goes home, too.
        self.assertEqual(watch.back("1"), ((0,), (1, 2)))
        self.assertEqual([watch.crew(k) for k in range(5)], [("in", 0), ("in", 1), ("in", 2), ("out", "2"), ("in", 2)])

    def test_a_crew_that_was_passed_is_not_asked_again(self):
        # The same with crew 2's part taken by crew 0: it is asked ahead of the one that goes home.
        cards = (("1", (1,), (1, 1, 1), ((2, 0),)), ("2", (3,), (1, 1, 1), ((0, 1),)), ("3", (), (0, 0, 0), ()))
        watch = Watch(1, (2, 0, 1, 1, 2), cards)
        self.assertEqual(watch.heard("1"), (1, (1,), ((2, 0),)))
        self.assertEqual(watch.heard("2"), (1, (3,), ((0, 1),)))
        self.assertEqual(watch.back("1"), ((1,), (2,)))
        self.assertEqual([watch.crew(k) for k in range(5)], [("in", 1), ("in", 0), ("in", 1), ("out", "2"), ("in", 2)])
        watch.heard("3")
        self.assertEqual(watch.back("3"), ((), (0,)))

    def test_a_crew_of_that_house_that_is_in_elsewhere_does_not_count(self):
        # Crew 1 (of house 1) is in at house 0, crew 2 (of house 2) at house 1.
        cards = (("1", (0,), (1, 1, 1), ((1, 0),)), ("2", (3,), (1, 1, 1), ((2, 1),)), ("3", (), (0, 0, 0), ()))
        watch = Watch(1, (0, 1, 2, 1, 2), cards)
        for number in ("1", "2", "3"):
            watch.heard(number)
        self.assertEqual(watch.back("3"), ((), ()))
        self.assertEqual([watch.crew(k) for k in range(5)], [("out", "1"), ("in", 0), ("in", 1), ("out", "2"), ("in", 2)])

    def test_a_crew_out_from_another_house_comes_back_to_its_own(self):
        cards = (("1", (0,), (1, 1, 1), ((2, 0),)), ("2", (2,), (1, 1, 1), ()))
        watch = Watch(1, (0, 1, 1), cards)
        watch.heard("1")
        self.assertEqual(watch.heard("2"), (1, (2,), ()))
        self.assertEqual(watch.back("2"), ((2,), ()))
        self.assertEqual(watch.crew(2), ("in", 1))


class Told(Watches):
    def test_calls_of_any_thing(self):
        watch = Watch(1, HOUSES, CARDS)
        watch.heard("12")
        for thing in OTHER_KINDS + WRONG_TEXTS + ["1", "3", ("12",), ["12"]]:
            told = watch.calls(thing)
            self.assertEqual((type(told), told), (int, 0), thing)
        self.assertEqual(watch.calls("12"), 1)

    def test_calls_beyond_the_third_level(self):
        watch = Watch(1, HOUSES, CARDS)
        for many in range(1, 9):
            watch.heard("12")
            self.assertEqual(watch.calls("12"), many)
        watch.back("12")
        self.assertEqual(watch.calls("12"), 0)

    def test_two_watches(self):
        one, other = Watch(1, HOUSES, CARDS), Watch(1, HOUSES, CARDS)
        fresh = self.state(other)
        one.heard("12")
        self.assertEqual(self.state(other), fresh)
        self.assertEqual(other.heard("12"), (1, (2,), ()))
        other.back("12")
        self.assertEqual(one.calls("12"), 1)
        self.assertEqual(one.crew(2), ("out", "12"))

    def test_what_was_handed_in_stays(self):
        houses, cards = copy.deepcopy(HOUSES), copy.deepcopy(CARDS)
        watch = Watch(1, houses, cards)
        for _ in range(4):
            watch.heard("12")
        watch.back("12")
        self.assertEqual((houses, cards), (HOUSES, CARDS))

    def test_against_a_table_of_its_own(self):
        chance = Random(181)
        for _ in range(150):
            rounds, houses = chance.randrange(1, 5), some_houses(chance)
            numbers = chance.sample(NUMBERS, chance.randrange(1, 9))
            cards = some_cards(chance, houses, numbers[:-1])
            watch, table = Watch(rounds, houses, cards), WatchTable(rounds, houses, cards)
            for _ in range(chance.randrange(10, 120)):
                number = chance.choice(numbers)
                if chance.randrange(6):
                    self.assertEqual(watch.heard(number), table.heard(number))
                elif table.calls[number]:
                    self.assertEqual(watch.back(number), table.back(number))
                else:
                    self.assert_refused("NoCall", watch.back, number)
                for _ in range(2):
                    self.assertEqual([watch.crew(k) for k in range(len(houses))], table.crews())
                    self.assertEqual([watch.calls(number) for number in numbers], [table.calls[number] for number in numbers])


if __name__ == "__main__":
    unittest.main()
