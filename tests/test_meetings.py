"""Meetings: who is left of numbers that start together, and where the others step back [10]."""

import copy
import unittest
from itertools import permutations
from random import Random

from callwheel.meetings import meeting
from things import NUMBERS, SOME_NUMBERS, Wire, told_row


def told_meeting(numbers):
    """The meeting walked tick by tick over the rows."""
    leaves = {}
    left = list(numbers)
    for place in range(58):
        breaking = [number for number in left if told_row(number)[place] == 1]
        if breaking:
            for number in left:
                if number not in breaking:
                    leaves[number] = place
            left = breaking
        if len(left) == 1:
            break
    return (left[0], tuple(leaves.get(number) for number in numbers))


def walked_meeting(numbers):
    """The meeting walked tick by tick by boxes that were pulled together on a quiet wire."""
    wire = Wire(numbers, 1)
    for number in numbers:
        wire.pull(number)
    leaves = {}
    tick = 0
    while True:
        came = wire.tick()
        for number in numbers:
            if wire.boxes[number][0] == 1 and wire.boxes[number][3] is None:
                leaves.setdefault(number, tick)
        if came:
            return (came[0][1], tuple(leaves.get(number) for number in numbers))
        tick += 1


class Meeting(unittest.TestCase):
    def assert_meeting(self, numbers):
        before = copy.deepcopy(numbers)
        told = meeting(numbers)
        self.assertEqual(told, told_meeting(numbers), numbers)
        self.assertEqual(meeting(numbers), told)
        self.assertEqual(numbers, before)
        self.assertIs(type(told), tuple)
        self.assertIs(type(told[1]), tuple)
        self.assertEqual(len(told[1]), len(numbers))
        self.assertTrue(all(leave is None or type(leave) is int for leave in told[1]))

    def test_one_alone(self):
        for number in NUMBERS:
            self.assertEqual(meeting((number,)), (number, (None,)))

    def test_two_that_differ_at_once(self):
        self.assertEqual(meeting(("1", "2")), ("2", (2, None)))
        self.assertEqual(meeting(("2", "1")), ("2", (None, 2)))
        self.assertEqual(meeting(("12", "3")), ("3", (2, None)))

    def test_one_that_begins_like_the_other(self):
        self.assertEqual(meeting(("1", "12")), ("12", (4, None)))
        self.assertEqual(meeting(("1", "11")), ("11", (4, None)))
        self.assertEqual(meeting(("666", "6666")), ("6666", (42, None)))
        self.assertEqual(meeting(("12", "121", "1211", "1")), ("1211", (10, 14, None, 4)))

    def test_several(self):
        self.assertEqual(meeting(("13", "12", "2", "21")), ("21", (2, 2, 6, None)))
        self.assertEqual(meeting(("12", "13", "11")), ("13", (8, None, 6)))

    def test_in_any_order(self):
        for numbers in permutations(("12", "13", "121", "2", "1")):
            self.assert_meeting(numbers)
            self.assertEqual(meeting(numbers)[0], "2")

    def test_all_two_of_some(self):
        for one in SOME_NUMBERS[::3]:
            for other in SOME_NUMBERS:
                if one != other:
                    self.assert_meeting((one, other))

    def test_twelve(self):
        self.assert_meeting(tuple(NUMBERS[:12]))
        self.assert_meeting(tuple(NUMBERS[11::-1]))
        self.assert_meeting(tuple(sorted(NUMBERS)[-12:]))
        self.assert_meeting(tuple(number for number in NUMBERS if number.startswith("66"))[:12])

    def test_any_count_of_any_numbers(self):
        chance = Random(10)
        for many in range(1, 13):
            for _ in range(30):
                self.assert_meeting(tuple(chance.sample(NUMBERS, many)))
                self.assert_meeting(tuple(chance.sample([n for n in NUMBERS if n.startswith("1")], many)))

    def test_as_the_boxes_have_it(self):
        chance = Random(11)
        for many in range(1, 13):
            for _ in range(5):
                numbers = tuple(chance.sample(SOME_NUMBERS, many))
                self.assertEqual(meeting(numbers), walked_meeting(numbers), numbers)


if __name__ == "__main__":
    unittest.main()
