"""Where a loop is cut, by what its two tapes heard [16]."""

import copy
import unittest
from itertools import combinations
from random import Random

from callwheel.finding import cut_range
from callwheel.lines import Line
from callwheel.tapes import rounds_on
from tables import some_town
from things import NUMBERS, told_row

LOOP = ("12", "3", "21", "1", "45")


def tape_of(*parts):
    """A tape of numbers' rows and of counts of quiet ticks; "K" the key."""
    signs = ()
    for part in parts:
        signs += (2, 2) if part == "K" else (0,) * part if isinstance(part, int) else told_row(part)
    return signs


def alike_long(near, far):
    most = max(len(near), len(far))
    return near + (0,) * (most - len(near)), far + (0,) * (most - len(far))


def told_range(numbers, near, far):
    """The range by the words of [16], read once more."""
    last = max([-1] + [tick for tick, sign in enumerate(near) if sign == 2])
    near_heard, far_heard = [
        {numbers.index(number) for tick, number in rounds_on(tape) if tick > last and number in numbers} for tape in (near, far)
    ]
    if near_heard & far_heard:
        return None
    return (max(near_heard, default=-1) + 1, min(far_heard, default=len(numbers)))


class CutRange(unittest.TestCase):
    def assert_range(self, numbers, near, far, expected):
        near, far = alike_long(near, far)
        handed = (numbers, near, far)
        before = copy.deepcopy(handed)
        told = cut_range(*handed)
        self.assertEqual(told, expected, handed)
        if expected is not None:
            self.assertEqual([type(told), *[type(part) for part in told]], [tuple, int, int])
        self.assertEqual(cut_range(*handed), told)
        self.assertEqual(handed, before)

    def test_nobody_heard(self):
        for tape in ((), (0,) * 9, (2, 2), (0, 2, 2, 0), tape_of("12", "K"), tape_of("12", "K", 30)):
            self.assert_range(LOOP, tape, tape, (0, 5))
            self.assert_range(LOOP[:1], tape, tape if 2 in tape else (), (0, 1))

    def test_heard_on_both(self):
        for number in LOOP:
            self.assert_range(LOOP, tape_of(number), tape_of(number), None)
            self.assert_range(LOOP, tape_of(number), tape_of(9, number), None)
            self.assert_range(LOOP, tape_of("12", 3, number), tape_of("45", 8, number), None)
            self.assert_range(LOOP, tape_of("K", 3, number), tape_of("K", 8, number), None)

    def test_heard_on_one(self):
        for place, number in enumerate(LOOP):
            self.assert_range(LOOP, tape_of(4, number), (), (place + 1, 5))
            self.assert_range(LOOP, (), tape_of(4, number), (0, place))
            for behind, other in list(enumerate(LOOP))[place + 1:]:
                self.assert_range(LOOP, tape_of(number), tape_of(7, other), (place + 1, behind))
                self.assert_range(LOOP, tape_of(number), tape_of(7, other, 3, LOOP[-1]), (place + 1, behind))
                self.assert_range(LOOP, tape_of(LOOP[0], 3, number), tape_of(7, other), (place + 1, behind))

    def test_tapes_of_whatever_town(self):
        self.assert_range(LOOP, tape_of("45"), tape_of("12"), (5, 0))
        self.assert_range(LOOP, tape_of("3", "45"), tape_of("12", "1"), (5, 0))

    def test_only_behind_the_last_key(self):
        self.assert_range(LOOP, tape_of("3", "K", "12"), tape_of("3", "K", "1"), (1, 3))
        self.assert_range(LOOP, tape_of("K", "3", "K", "12"), tape_of("K", "3", "K", "1"), (1, 3))
        self.assert_range(LOOP, tape_of("12", "K", 40), tape_of("21", "K", 40), (0, 5))
        self.assert_range(LOOP, tape_of("K", "3"), tape_of("K", 50), (2, 5))

    def test_a_round_begins_at_the_tick_behind_the_key(self):
        self.assert_range(LOOP, (2,) + told_row("3"), (2,), (2, 5))
        self.assert_range(LOOP, told_row("3") + (2,), (0,) * len(told_row("3")) + (2,), (0, 5))

    def test_what_is_no_whole_round_is_not_heard(self):
        row = told_row("3")
        self.assert_range(LOOP, (2,) + row[:-1], (2,) + row[:-1], (0, 5))
        self.assert_range(LOOP, (1, 1, 0, 0, 0, 0, 0), (1, 1, 0, 0, 0, 0, 0), (0, 5))

    def test_numbers_of_no_box_of_the_loop(self):
        self.assert_range(LOOP, tape_of("9"), tape_of("9"), (0, 5))
        self.assert_range(LOOP, tape_of("9", "12", "9"), tape_of("9", "45"), (1, 4))
        self.assert_range(("1",), tape_of("12", "3"), tape_of("12", "3"), (0, 1))

    def test_some_tapes(self):
        chance = Random(161)
        for _ in range(400):
            loop = tuple(chance.sample(NUMBERS[:90], chance.randrange(1, 13)))
            near, far = (), ()
            for _ in range(chance.randrange(1, 6)):
                others = (*loop, *loop, *NUMBERS[:20])
                near += tape_of(*[chance.choice(others) for _ in range(chance.randrange(4))], chance.randrange(9))
                far += tape_of(chance.randrange(9), *[chance.choice(others) for _ in range(chance.randrange(4))])
                near, far = alike_long(near, far)
                if chance.randrange(2):
                    near, far = near + (2,), far + (2,)
            self.assert_range(loop, near, far, told_range(loop, near, far))


class OnLines(unittest.TestCase):
    def heard_all(self, town, stretches, loop=0):
        """A line with these stretches of a loop cut, behind a pull of each box and all that comes of it."""
        line = Line(town)
        for stretch in stretches:
            line.cut(loop, stretch)
        for number in town[0][loop]:
            line.pull(number)
        for _ in range(900):
            line.tick()
        return cut_range(town[0][loop], line.near_tape(loop), line.far_tape(loop))

    def test_none_to_four_cuts(self):
        chance = Random(162)
        for boxes in (1, 2, 3, 5, 12):
            numbers = tuple(chance.sample(NUMBERS, boxes))
            choices = [cuts for many in range(5) for cuts in combinations(range(boxes + 1), many)]
            for cuts in chance.sample(choices, min(len(choices), 14)):
                shuffled = chance.sample(cuts, len(cuts))
                expected = (cuts[0], cuts[-1]) if cuts else None
                self.assertEqual(self.heard_all(((numbers,), 1, 1), shuffled), expected)

    def test_in_a_town_of_several_loops(self):
        chance = Random(163)
        for _ in range(6):
            town = some_town(chance, loops=3, boxes=4, rounds=1)
            cuts = sorted(chance.sample(range(5), 2))
            self.assertEqual(self.heard_all(town, cuts, 1), tuple(cuts))

    def test_all_cuts_lie_within_whoever_was_pulled(self):
        chance = Random(164)
        for _ in range(40):
            numbers = tuple(chance.sample(NUMBERS[:90], chance.randrange(1, 13)))
            line = Line(((numbers,), 1, 50))
            for stretch in chance.sample(range(len(numbers) + 1), chance.randrange(1, min(4, len(numbers) + 1) + 1)):
                line.cut(0, stretch)
            pulled = chance.sample(numbers, chance.randrange(len(numbers) + 1))
            for number in pulled:
                line.pull(number)
            for _ in range(chance.choice((30, 200, 700))):
                line.tick()
            low, high = cut_range(numbers, line.near_tape(0), line.far_tape(0))
            for stretch in line.cuts()[0]:
                self.assertTrue(low <= stretch <= high)


if __name__ == "__main__":
    unittest.main()
