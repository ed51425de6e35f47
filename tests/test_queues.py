"""The plain queue: which rounds come of pulls, and how many ticks all may need [11, 12]."""

import copy
import unittest
from random import Random

from callwheel.queues import due_rounds, most_ticks
from things import NUMBERS, SOME_NUMBERS, Wire, told_row


def walked_rounds(rounds, pulls):
    """The rounds that come of the pulls, tick by tick with boxes on a quiet wire."""
    wire = Wire({number: True for _, number in pulls}, rounds, spring=10 ** 6)
    came = []
    tick = 0
    while not wire.is_idle() or any(at >= tick for at, _ in pulls):
        for at, number in pulls:
            if at == tick:
                wire.pull(number)
        came += wire.tick()
        tick += 1
    return tuple(came)


def some_pulls(chance, numbers, many, last):
    ticks = sorted(chance.randrange(last + 1) for _ in range(many))
    return tuple((tick, chance.choice(numbers)) for tick in ticks)


class DueRounds(unittest.TestCase):
    def assert_walked(self, rounds, pulls):
        before = copy.deepcopy(pulls)
        told = due_rounds(rounds, pulls)
        self.assertEqual(told, walked_rounds(rounds, pulls), (rounds, pulls))
        self.assertEqual(due_rounds(rounds, pulls), told)
        self.assertEqual(pulls, before)
        self.assertIs(type(told), tuple)
        for line in told:
            self.assertIs(type(line), tuple)
            self.assertEqual([type(part) for part in line], [int, str])

    def test_no_pulls(self):
        for rounds in (1, 2, 3, 4):
            self.assertEqual(due_rounds(rounds, ()), ())

    def test_one_pull(self):
        for tick in (0, 1, 7, 8, 2999, 3000):
            self.assertEqual(due_rounds(1, ((tick, "12"),)), ((tick, "12"),))

    def test_each_count_of_rounds(self):
        # Twelve ticks a row, then three and as many more as were sent.
        self.assertEqual(due_rounds(2, ((5, "12"),)), ((5, "12"), (21, "12")))
        self.assertEqual(due_rounds(3, ((5, "12"),)), ((5, "12"), (21, "12"), (38, "12")))
        self.assertEqual(due_rounds(4, ((5, "12"),)), ((5, "12"), (21, "12"), (38, "12"), (56, "12")))

    def test_pulls_at_one_tick(self):
        pulls = ((4, "1"), (4, "3"), (4, "12"))
        self.assertEqual(due_rounds(1, pulls), ((4, "3"), (17, "12"), (32, "1")))
        self.assertEqual(due_rounds(1, pulls[::-1]), ((4, "3"), (17, "12"), (32, "1")))
        self.assertEqual(due_rounds(2, ((0, "2"), (0, "1"))), ((0, "2"), (11, "1"), (21, "2"), (33, "1")))

    def test_a_number_twice_at_one_tick(self):
        self.assertEqual(due_rounds(1, ((4, "1"), (4, "1"))), ((4, "1"),))
        self.assertEqual(due_rounds(2, ((4, "1"), (4, "1"), (4, "1"))), ((4, "1"), (14, "1")))

    def test_a_pull_while_it_sends(self):
        for tick in range(6):
            self.assertEqual(due_rounds(1, ((0, "1"), (tick, "1"))), ((0, "1"),))
        self.assertEqual(due_rounds(1, ((0, "1"), (6, "1"))), ((0, "1"), (9, "1")))
        self.assertEqual(due_rounds(1, ((0, "1"), (8, "1"))), ((0, "1"), (9, "1")))
        self.assertEqual(due_rounds(1, ((0, "1"), (9, "1"))), ((0, "1"), (9, "1")))
        self.assertEqual(due_rounds(1, ((0, "1"), (10, "1"))), ((0, "1"), (10, "1")))

    def test_a_pull_between_and_in_its_rounds(self):
        for tick in range(16):
            self.assertEqual(due_rounds(2, ((0, "1"), (tick, "1"))), ((0, "1"), (10, "1")))
        self.assertEqual(due_rounds(2, ((0, "1"), (16, "1"))), ((0, "1"), (10, "1"), (19, "1"), (29, "1")))

    def test_a_pull_behind_the_last_tick_counts_for_each_number(self):
        for number in SOME_NUMBERS[::4]:
            for rounds in (1, 2, 3, 4):
                last = due_rounds(rounds, ((0, number),))[-1][0] + len(told_row(number))
                self.assertEqual(len(due_rounds(rounds, ((0, number), (last - 1, number)))), rounds)
                again = due_rounds(rounds, ((0, number), (last, number)))
                self.assertEqual(len(again), 2 * rounds)
                self.assertEqual(again[rounds], (last + 3, number))

    def test_a_pull_while_another_sends(self):
        for tick in range(10):
            self.assertEqual(due_rounds(1, ((0, "1"), (tick, "9"))), ((0, "1"), (9, "9")) if tick else ((0, "9"), (25, "1")))
        self.assertEqual(due_rounds(1, ((0, "1"), (10, "9"))), ((0, "1"), (10, "9")))

    def test_whoever_has_sent_fewer_goes_first(self):
        self.assertEqual(due_rounds(2, ((0, "9"), (1, "1"))), ((0, "9"), (25, "1"), (35, "9"), (61, "1")))

    def test_ready_at_one_tick_with_unlike_counts_sent(self):
        # Behind the first round of "9" the wire is quiet from tick 17 on; at tick 26 both may start.
        self.assertEqual(due_rounds(2, ((0, "9"), (26, "1")))[:2], ((0, "9"), (26, "9")))
        self.assertEqual(due_rounds(2, ((0, "9"), (25, "1")))[:2], ((0, "9"), (25, "1")))
        # Behind the first round of "1" it is quiet from tick 1 on; at tick 10 both may start.
        self.assertEqual(due_rounds(2, ((0, "1"), (10, "9")))[:2], ((0, "1"), (10, "9")))
        self.assertEqual(due_rounds(2, ((0, "1"), (11, "9")))[:2], ((0, "1"), (10, "1")))

    def test_ticks_at_the_bounds(self):
        pulls = ((0, "1"), (0, "2"), (3000, "1"), (3000, "2"))
        self.assertEqual(due_rounds(1, pulls), ((0, "2"), (11, "1"), (3000, "2"), (3011, "1")))

    def test_twelve_numbers_and_thirty_pulls(self):
        chance = Random(11)
        for last in (0, 30, 600, 3000):
            for rounds in (1, 2, 3, 4):
                numbers = chance.sample(NUMBERS, 12)
                pulls = some_pulls(chance, numbers, 18, last)
                pulls = tuple(sorted(pulls + tuple((0, number) for number in numbers), key=lambda pull: pull[0]))
                self.assertEqual(len(pulls), 30)
                self.assert_walked(rounds, pulls)

    def test_as_the_boxes_have_it(self):
        chance = Random(12)
        for _ in range(60):
            numbers = chance.sample(SOME_NUMBERS[:40], chance.randrange(1, 8))
            pulls = some_pulls(chance, numbers, chance.randrange(1, 31), chance.choice((5, 40, 200, 900)))
            self.assert_walked(chance.randrange(1, 5), pulls)

    def test_each_tick_of_two_pulls(self):
        for tick in range(80):
            self.assert_walked(2, ((0, "2"), (0, "1"), (tick, "1"), (tick, "3")))


class MostTicks(unittest.TestCase):
    def test_no_numbers(self):
        for rounds in (1, 2, 3, 4):
            self.assertEqual(most_ticks(rounds, ()), 5)

    def test_one_number(self):
        self.assertEqual([most_ticks(rounds, ("12",)) for rounds in (1, 2, 3, 4)], [20, 36, 53, 71])
        for number in NUMBERS[::13]:
            row = len(told_row(number))
            for rounds, waits in ((1, 3), (2, 3 + 4), (3, 3 + 4 + 5), (4, 3 + 4 + 5 + 6)):
                told = most_ticks(rounds, (number,))
                self.assertIs(type(told), int)
                self.assertEqual(told, 5 + rounds * row + waits)

    def test_several(self):
        self.assertEqual(most_ticks(1, ("1", "2")), 5 + (6 + 3) + (8 + 3))
        self.assertEqual(most_ticks(2, ("1", "2")), 5 + (6 + 3) + (6 + 4) + (8 + 3) + (8 + 4))

    def test_forty_eight_numbers(self):
        numbers = tuple(NUMBERS[::len(NUMBERS) // 48][:48])
        self.assertEqual(len(numbers), 48)
        rows = sum(len(told_row(number)) for number in numbers)
        for rounds, waits in ((1, 3), (2, 7), (3, 12), (4, 18)):
            self.assertEqual(most_ticks(rounds, numbers), 5 + rounds * rows + 48 * waits)
            self.assertEqual(most_ticks(rounds, numbers[::-1]), most_ticks(rounds, numbers))

    def test_pulled_at_one_tick_on_a_quiet_wire(self):
        chance = Random(13)
        for many in (1, 2, 3, 7, 12):
            for rounds in (1, 2, 3, 4):
                numbers = tuple(chance.sample(NUMBERS, many))
                tick, number = due_rounds(rounds, tuple((40, number) for number in numbers))[-1]
                needed = tick + len(told_row(number)) - 40
                self.assertEqual(needed, most_ticks(rounds, numbers) - 8)

    def test_from_the_tick_behind_the_last_broken_one(self):
        chance = Random(14)
        for many in (1, 2, 5, 12):
            for rounds in (1, 2, 3, 4):
                numbers = tuple(chance.sample(NUMBERS, many))
                wire = Wire(numbers, rounds, quiet=0)
                for number in numbers:
                    wire.pull(number)
                wire.ticks(most_ticks(rounds, numbers) - 1)
                self.assertFalse(wire.is_idle())
                wire.tick()
                self.assertTrue(wire.is_idle())

    def test_asked_again(self):
        numbers = ("1", "2", "12")
        self.assertEqual(most_ticks(3, numbers), most_ticks(3, copy.deepcopy(numbers)))
        self.assertEqual(most_ticks(1, ("1",)), 14)
        self.assertEqual(numbers, ("1", "2", "12"))


if __name__ == "__main__":
    unittest.main()
