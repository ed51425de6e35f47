"""What a whole number is [2]."""

import unittest

from callwheel.kinds import is_same, is_tuple_within, is_whole, is_whole_within
from things import OTHER_KINDS, WRONG_TEXTS


class Kinds(unittest.TestCase):
    def test_whole_numbers(self):
        for number in (0, 1, -1, 7, 10 ** 30 - 1, 1 - 10 ** 30):
            self.assertIs(is_whole(number), True)

    def test_truths_are_no_whole_numbers(self):
        self.assertIs(is_whole(True), False)
        self.assertIs(is_whole(False), False)

    def test_other_things_are_no_whole_numbers(self):
        for thing in OTHER_KINDS + WRONG_TEXTS:
            self.assertIs(is_whole(thing), type(thing) is int)

    def test_within(self):
        told = [number for number in range(-3, 9) if is_whole_within(number, 1, 4)]
        self.assertEqual(told, [1, 2, 3, 4])
        for thing in OTHER_KINDS + WRONG_TEXTS:
            self.assertIs(is_whole_within(thing, 0, 1), type(thing) is int and thing in (0, 1))

    def test_tuples_within(self):
        told = [many for many in range(7) if is_tuple_within((None,) * many, 2, 4)]
        self.assertEqual(told, [2, 3, 4])
        for thing in OTHER_KINDS + WRONG_TEXTS:
            self.assertIs(is_tuple_within(thing, 0, 3000), type(thing) is tuple)

    def test_the_same(self):
        things = OTHER_KINDS + WRONG_TEXTS + [(0, ("a", (1,))), (0, ("a", (True,))), (False, ("a", (1,)))]
        for told in (0, 1, -1, "", "12", (), (1,), ("12",), (0, ("a", (1,))), ((),)):
            for thing in things + [told]:
                # Texts of things tell True from 1 and lists from tuples.
                self.assertIs(is_same(told, thing), repr(told) == repr(thing), (told, thing))


if __name__ == "__main__":
    unittest.main()
