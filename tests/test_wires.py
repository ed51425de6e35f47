"""Parts of wire by the cuts, and who is dumb [7]."""

import copy
import unittest
from itertools import combinations, product

from callwheel.wires import dumb_numbers, end_parts, wire_parts
from things import NUMBERS

LOOPS = (("12", "3", "4567"), ("1",), ("21", "996"), ("6666", "13"))
TOWN = (LOOPS, 2, 5)
NO_CUTS = ((), (), (), ())


def town_of(*lengths):
    """A town whose loops have so many boxes each."""
    ends = [sum(lengths[:at]) for at in range(len(lengths) + 1)]
    return (tuple(tuple(NUMBERS[low:high]) for low, high in zip(ends, ends[1:])), 1, 1)


def all_cuts(boxes):
    """All cuts of a loop of so many boxes."""
    stretches = range(boxes + 1)
    return [cut for many in range(boxes + 2) for cut in combinations(stretches, many)]


def some_cuts(boxes):
    """Cuts of a loop: none, each one, each two, all but one, and all."""
    return [cut for cut in all_cuts(boxes) if len(cut) in (0, 1, 2, boxes, boxes + 1)]


def told_near(loop, cut):
    return tuple(number for k, number in enumerate(loop) if all(k < stretch for stretch in cut))


def told_far(loop, cut):
    return tuple(number for k, number in enumerate(loop) if all(k >= stretch for stretch in cut))


def told_parts(loop, cut):
    return (told_near(loop, cut), told_far(loop, cut)) if cut else (loop,)


def told_dumb(loop, cut):
    heard = told_near(loop, cut) + told_far(loop, cut)
    return tuple(number for number in loop if number not in heard)


SMALL = [
    (town, cuts) for lengths in ((1,), (4,), (1, 1), (2, 1), (1, 2, 1), (1, 1, 1, 1)) for town in [town_of(*lengths)]
    for cuts in product(*[all_cuts(many) for many in lengths])
]
LARGE = [(town_of(12), (cut,)) for cut in some_cuts(12)]
LARGE += [(town_of(12, 12, 12, 12), (cut, (), (5,), (0, 12))) for cut in some_cuts(12)]
CASES = SMALL + LARGE


class WireParts(unittest.TestCase):
    def assert_kinds(self, parts):
        self.assertIs(type(parts), tuple)
        for part in parts:
            self.assertIs(type(part), tuple)
            self.assertTrue(all(type(number) is str for number in part))

    def test_without_cuts(self):
        self.assertEqual(wire_parts(TOWN, NO_CUTS, False), LOOPS)

    def test_one_cut(self):
        for stretch, parts in (
            (0, ((), ("12", "3", "4567"))),
            (1, (("12",), ("3", "4567"))),
            (2, (("12", "3"), ("4567",))),
            (3, (("12", "3", "4567"), ())),
        ):
            cuts = ((stretch,),) + NO_CUTS[1:]
            self.assertEqual(wire_parts(TOWN, cuts, False), parts + LOOPS[1:])

    def test_two_cuts(self):
        for cut, parts in (
            ((0, 1), ((), ("3", "4567"))),
            ((0, 3), ((), ())),
            ((1, 2), (("12",), ("4567",))),
            ((1, 3), (("12",), ())),
        ):
            self.assertEqual(wire_parts(TOWN, (cut,) + NO_CUTS[1:], False), parts + LOOPS[1:])

    def test_all_stretches_cut(self):
        self.assertEqual(wire_parts(TOWN, ((0, 1, 2, 3), (0, 1), (0, 1, 2), (0, 1, 2)), False), ((),) * 8)
        self.assertEqual(wire_parts(TOWN, ((0, 1, 2, 3), (0, 1), (0, 1, 2), (0, 1, 2)), True), ((),))

    def test_loop_of_one_box(self):
        town = ((("9",),), 1, 1)
        for cut, parts in (((), (("9",),)), ((0,), ((), ("9",))), ((1,), (("9",), ())), ((0, 1), ((), ()))):
            self.assertEqual(wire_parts(town, (cut,), False), parts)

    def test_several_loops_cut(self):
        cuts = ((1,), (), (0, 2), (2,))
        self.assertEqual(
            wire_parts(TOWN, cuts, False), (("12",), ("3", "4567"), ("1",), (), (), ("6666", "13"), ()),
        )

    def test_joined(self):
        self.assertEqual(wire_parts(TOWN, NO_CUTS, True), (("12", "3", "4567", "1", "21", "996", "6666", "13"),))
        self.assertEqual(
            wire_parts(TOWN, ((1, 2), (0,), (), (0, 2)), True), (("12", "4567", "1", "21", "996"),),
        )

    def test_order_of_the_wire_is_not_that_of_texts(self):
        town = ((("9", "1", "5"), ("4", "8")), 1, 1)
        self.assertEqual(wire_parts(town, ((1,), ()), False), (("9",), ("1", "5"), ("4", "8")))
        self.assertEqual(wire_parts(town, ((1,), ()), True), (("9", "1", "5", "4", "8"),))

    def test_all_as_the_document_parts_them(self):
        for town, cuts in CASES:
            parts = tuple(part for loop, cut in zip(town[0], cuts) for part in told_parts(loop, cut))
            self.assertEqual(wire_parts(town, cuts, False), parts, cuts)
            self.assertEqual(wire_parts(town, cuts, True), (sum(parts, ()),), cuts)

    def test_kinds(self):
        for town, cuts in SMALL:
            self.assert_kinds(wire_parts(town, cuts, False))
            self.assert_kinds(wire_parts(town, cuts, True))

    def test_asked_again(self):
        cuts = ((1,), (), (0, 2), (2,))
        before = copy.deepcopy((TOWN, cuts))
        parted = wire_parts(TOWN, cuts, False)
        joined = wire_parts(TOWN, cuts, True)
        self.assertEqual(wire_parts(TOWN, cuts, False), parted)
        self.assertEqual(wire_parts(TOWN, NO_CUTS, False), LOOPS)
        self.assertEqual(wire_parts(TOWN, cuts, True), joined)
        self.assertEqual((TOWN, cuts), before)


class DumbNumbers(unittest.TestCase):
    def test_none_of_no_cut_or_one(self):
        for stretch in range(4):
            self.assertEqual(dumb_numbers(TOWN, ((stretch,),) + NO_CUTS[1:]), ())
        self.assertEqual(dumb_numbers(TOWN, NO_CUTS), ())
        self.assertEqual(dumb_numbers(TOWN, ((3,), (1,), (0,), (2,))), ())

    def test_two_cuts(self):
        for cut, dumb in (
            ((0, 1), ("12",)), ((1, 2), ("3",)), ((2, 3), ("4567",)), ((0, 3), ("12", "3", "4567")),
            ((1, 3), ("3", "4567")),
        ):
            self.assertEqual(dumb_numbers(TOWN, (cut,) + NO_CUTS[1:]), dumb)

    def test_cuts_between_the_first_and_the_last(self):
        self.assertEqual(dumb_numbers(TOWN, ((0, 1, 3),) + NO_CUTS[1:]), ("12", "3", "4567"))
        self.assertEqual(dumb_numbers(TOWN, ((0, 1, 2),) + NO_CUTS[1:]), ("12", "3"))

    def test_several_loops(self):
        self.assertEqual(dumb_numbers(TOWN, ((1, 3), (0, 1), (0,), (1, 2))), ("3", "4567", "1", "13"))
        self.assertEqual(
            dumb_numbers(TOWN, ((0, 1, 2, 3), (0, 1), (0, 1, 2), (0, 1, 2))),
            ("12", "3", "4567", "1", "21", "996", "6666", "13"),
        )

    def test_all_as_the_document_tells_them(self):
        for town, cuts in CASES:
            dumb = tuple(number for loop, cut in zip(town[0], cuts) for number in told_dumb(loop, cut))
            told = dumb_numbers(town, cuts)
            self.assertIs(type(told), tuple)
            self.assertEqual(told, dumb, cuts)


class EndParts(unittest.TestCase):
    def test_near_and_far_part_of_each_loop(self):
        for town, cuts in CASES:
            ends = tuple((told_near(loop, cut), told_far(loop, cut)) for loop, cut in zip(town[0], cuts))
            self.assertEqual(end_parts(town, cuts, False), ends, cuts)

    def test_of_a_joined_town_the_one_part(self):
        for town, cuts in CASES:
            (whole,) = wire_parts(town, cuts, True)
            self.assertEqual(end_parts(town, cuts, True), ((whole, whole),) * len(town[0]), cuts)


class PartsAndDumb(unittest.TestCase):
    def test_each_box_is_on_one_part_or_dumb(self):
        for town, cuts in CASES:
            for joined in (False, True):
                heard = [number for part in wire_parts(town, cuts, joined) for number in part]
                both = heard + list(dumb_numbers(town, cuts))
                self.assertEqual(sorted(both), sorted(number for loop in town[0] for number in loop), cuts)

    def test_one_cut_more_lets_nobody_be_heard(self):
        for town, cuts in CASES:
            dumb = set(dumb_numbers(town, cuts))
            for at, loop in enumerate(town[0]):
                for stretch in range(len(loop) + 1):
                    more = cuts[:at] + (tuple(sorted({*cuts[at], stretch})),) + cuts[at + 1:]
                    self.assertLessEqual(dumb, set(dumb_numbers(town, more)), (cuts, more))
                    for joined in (False, True):
                        parts = [set(part) for part in wire_parts(town, cuts, joined)]
                        for part in wire_parts(town, more, joined):
                            self.assertTrue(any(set(part) <= whole for whole in parts), (cuts, more))


if __name__ == "__main__":
    unittest.main()
