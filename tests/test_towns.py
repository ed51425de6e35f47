"""Towns, and where their boxes stand [6]."""

import copy
import unittest

from callwheel.towns import is_town, spot_of
from things import NUMBERS, OTHER_KINDS, WRONG_TEXTS

LOOPS = (("12", "3", "4567"), ("1",), ("21", "996"), ("6666", "13"))
TOWN = (LOOPS, 2, 5)


def put(parts, at, part):
    """The same kind of parts with one put otherwise."""
    return parts[:at] + type(parts)([part]) + parts[at + 1:]


class IsTown(unittest.TestCase):
    def assert_told(self, thing, expected):
        before = copy.deepcopy(thing)
        self.assertIs(is_town(thing), expected, thing)
        self.assertIs(is_town(thing), expected, thing)
        self.assertEqual(thing, before)

    def test_plain_towns(self):
        self.assert_told(TOWN, True)
        self.assert_told(((("1",),), 1, 1), True)
        self.assert_told(((("1", "2"),), 4, 50), True)

    def test_how_many_loops(self):
        for many in range(8):
            loops = tuple((number,) for number in NUMBERS[:many])
            self.assert_told((loops, 2, 5), 1 <= many <= 4)

    def test_how_many_numbers_in_a_loop(self):
        for many in list(range(16)) + [1000]:
            loop = tuple(NUMBERS[100:100 + many])
            self.assert_told(((loop,), 2, 5), 1 <= many <= 12)
            self.assert_told(((("1",), loop, ("2",)), 2, 5), 1 <= many <= 12)
            self.assert_told(((("1",), ("2",), ("3",), loop), 2, 5), 1 <= many <= 12)

    def test_largest_town(self):
        loops = tuple(tuple(NUMBERS[at:at + 12]) for at in (0, 12, 24, 36))
        self.assert_told((loops, 4, 50), True)

    def test_rounds(self):
        for rounds in (-1, 0, 1, 2, 3, 4, 5, 50, 10 ** 29):
            self.assert_told((LOOPS, rounds, 5), 1 <= rounds <= 4)

    def test_spring(self):
        for spring in (-1, 0, 1, 2, 4, 5, 49, 50, 51, 10 ** 29):
            self.assert_told((LOOPS, 2, spring), 1 <= spring <= 50)

    def test_rounds_and_spring_of_other_kinds(self):
        for thing in OTHER_KINDS + WRONG_TEXTS + ["1", "2"]:
            if type(thing) is not int:
                self.assert_told((LOOPS, thing, 5), False)
                self.assert_told((LOOPS, 2, thing), False)

    def test_true_is_no_one(self):
        self.assert_told((LOOPS, 1, 1), True)
        self.assert_told((LOOPS, True, 1), False)
        self.assert_told((LOOPS, 1, True), False)
        self.assert_told((LOOPS, True, True), False)

    def test_a_number_twice_in_one_loop(self):
        self.assert_told(((("12", "3", "12"),), 2, 5), False)
        self.assert_told(((("1",), ("3", "3")), 2, 5), False)

    def test_a_number_twice_in_two_loops(self):
        for first in range(4):
            for second in range(first + 1, 4):
                twice = put(LOOPS, second, LOOPS[second] + LOOPS[first][-1:])
                self.assert_told((twice, 2, 5), False)
        self.assert_told(((("1",), ("1",)), 2, 5), False)

    def test_what_is_no_number(self):
        for at, loop in enumerate(LOOPS):
            for place in range(len(loop)):
                for thing in OTHER_KINDS + WRONG_TEXTS:
                    self.assert_told((put(LOOPS, at, put(loop, place, thing)), 2, 5), False)

    def test_what_is_no_loop(self):
        for at in range(len(LOOPS)):
            for thing in OTHER_KINDS + WRONG_TEXTS + ["12", "77"]:
                if thing not in (("12",), ("1", "2")):
                    self.assert_told((put(LOOPS, at, thing), 2, 5), False)

    def test_what_is_no_loops(self):
        for thing in OTHER_KINDS + WRONG_TEXTS + ["12"]:
            self.assert_told((thing, 2, 5), False)

    def test_lists_in_place_of_tuples(self):
        self.assert_told([LOOPS, 2, 5], False)
        self.assert_told((list(LOOPS), 2, 5), False)
        self.assert_told([list(LOOPS), 2, 5], False)
        for at, loop in enumerate(LOOPS):
            self.assert_told((put(LOOPS, at, list(loop)), 2, 5), False)
            for place, number in enumerate(loop):
                self.assert_told((put(LOOPS, at, put(loop, place, [number])), 2, 5), False)
        self.assert_told(([list(loop) for loop in LOOPS], 2, 5), False)

    def test_one_part_more_or_fewer(self):
        for at in range(3):
            self.assert_told(TOWN[:at] + TOWN[at + 1:], False)
        for at in range(4):
            for part in (1, 2, None, True, "12", (), LOOPS):
                self.assert_told(TOWN[:at] + (part,) + TOWN[at:], False)

    def test_parts_in_another_order(self):
        self.assert_told((2, LOOPS, 5), False)
        self.assert_told((2, 5, LOOPS), False)

    def test_one_level_more_or_fewer(self):
        self.assert_told((("1", "2"), 2, 5), False)
        self.assert_told(("1", 2, 5), False)
        self.assert_told((((("1",),),), 2, 5), False)
        self.assert_told((TOWN,), False)

    def test_other_things(self):
        for thing in OTHER_KINDS + WRONG_TEXTS:
            self.assert_told(thing, thing == ((("1",),), 1, 1))


class SpotOf(unittest.TestCase):
    def assert_none(self, town, thing):
        before = copy.deepcopy(thing)
        self.assertIsNone(spot_of(town, thing))
        self.assertIsNone(spot_of(town, thing))
        self.assertEqual(thing, before)

    def test_each_number(self):
        for at, loop in enumerate(LOOPS):
            for place, number in enumerate(loop):
                spot = spot_of(TOWN, number)
                self.assertIs(type(spot), tuple)
                self.assertEqual(spot, (at, place))
                self.assertEqual([type(part) for part in spot], [int, int])

    def test_each_number_of_the_largest_town(self):
        town = (tuple(tuple(NUMBERS[at:at + 12]) for at in (0, 12, 24, 36)), 4, 50)
        for k, number in enumerate(NUMBERS[:48]):
            self.assertEqual(spot_of(town, number), (k // 12, k - k // 12 * 12))

    def test_numbers_of_no_box(self):
        own = [number for loop in LOOPS for number in loop]
        for number in NUMBERS:
            if number not in own:
                self.assert_none(TOWN, number)

    def test_one_town_tells_nothing_of_another(self):
        other = ((("3", "12"),), 2, 5)
        self.assertEqual(spot_of(TOWN, "12"), (0, 0))
        self.assertEqual(spot_of(other, "12"), (0, 1))
        self.assertEqual(spot_of(TOWN, "1"), (1, 0))
        self.assert_none(other, "1")
        self.assertEqual(spot_of(TOWN, "12"), (0, 0))

    def test_parts_and_whole_of_the_town(self):
        for thing in (TOWN, LOOPS, LOOPS[0], LOOPS[1], list(LOOPS[1]), (0, 0), 0, 1, "123", "12 ", "012"):
            self.assert_none(TOWN, thing)

    def test_numbers_by_other_kinds(self):
        for number in ("12", "1", "6666"):
            for thing in (int(number), [number], (number,), list(number), tuple(number), ([number],), [(number,)]):
                self.assert_none(TOWN, thing)

    def test_other_things(self):
        for thing in OTHER_KINDS + WRONG_TEXTS:
            self.assert_none(TOWN, thing)


if __name__ == "__main__":
    unittest.main()
