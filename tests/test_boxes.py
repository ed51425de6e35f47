"""Boxes: how it stands with one, and what pulls, windings and ticks make of it [8, 9]."""

import copy
import unittest
from random import Random

from callwheel.boxes import box_behind, box_breaks, box_pulled, box_started, box_wound, new_box
from things import NUMBERS, ROWS, SOME_NUMBERS, Wire, told_row

BOX_NUMBERS = ("1", "12", "9", "6666")


def all_boxes(number):
    """Boxes of a number: all they have to send and have sent, springs beside their bounds, all places, all quiets."""
    shares = [(left, sent) for left in range(5) for sent in range(4) if left + sent <= 4 and (left > 0 or sent == 0)]
    for left, sent in shares:
        for spring in (0, 1, 2, 49, 50):
            runs = range(len(told_row(number))) if left > 0 and spring > 0 else ()
            for place in [None, *runs]:
                for quiet in range(13):
                    yield (left, sent, spring, place, quiet)


def told_started(box):
    left, sent, spring, place, quiet = box
    starts = place is None and left != 0 and spring != 0 and quiet - sent > 7
    return (left, sent, spring, 0 if starts else place, quiet)


def told_behind(box, number, broken):
    """A box behind a tick by the words of [9], read once more."""
    left, sent, spring, place, quiet = box
    row = told_row(number)
    if place is not None:
        if broken and row[place] == 0:
            place = None
        elif place == len(row) - 1:
            place, left, spring = None, left - 1, spring - 1
            sent = 0 if left == 0 else sent + 1
        else:
            place += 1
    return (left, sent, spring, place, 0 if broken else (quiet + 1 if quiet < 12 else 12))


class Stand(unittest.TestCase):
    def assert_box(self, told, expected):
        self.assertEqual(told, expected)
        self.assertIs(type(told), tuple)
        self.assertEqual([type(part) for part in told], [type(part) for part in expected])


class New(Stand):
    def test_each_spring(self):
        for spring in range(1, 51):
            self.assert_box(new_box(spring), (0, 0, spring, None, 0))


class Pulled(Stand):
    def test_with_nothing_to_send(self):
        for rounds in (1, 2, 3, 4):
            self.assert_box(box_pulled(new_box(5), rounds), (rounds, 0, 5, None, 0))
            self.assert_box(box_pulled((0, 0, 0, None, 7), rounds), (rounds, 0, 0, None, 7))

    def test_with_rounds_to_send_nothing_changes(self):
        for box in ((1, 0, 5, None, 3), (1, 3, 1, None, 12), (4, 0, 50, 0, 12), (2, 1, 7, 4, 0), (1, 0, 0, None, 0)):
            for rounds in (1, 2, 3, 4):
                self.assert_box(box_pulled(box, rounds), box)

    def test_all(self):
        for box in all_boxes("12"):
            for rounds in (1, 2, 3, 4):
                self.assert_box(box_pulled(box, rounds), box if box[0] else (rounds, 0) + box[2:])

    def test_twice_as_once(self):
        for box in all_boxes("12"):
            for rounds in (1, 2, 3, 4):
                once = box_pulled(box, rounds)
                self.assert_box(box_pulled(once, rounds), once)


class Wound(Stand):
    def test_some(self):
        self.assert_box(box_wound((2, 1, 0, None, 4), 6), (2, 1, 6, None, 4))
        self.assert_box(box_wound((2, 1, 3, 5, 4), 50), (2, 1, 50, 5, 4))

    def test_all(self):
        for box in all_boxes("12"):
            for spring in (1, 2, 50):
                self.assert_box(box_wound(box, spring), box[:2] + (spring,) + box[3:])

    def test_wound_and_pulled_as_pulled_and_wound(self):
        for box in all_boxes("12"):
            for rounds, spring in ((1, 50), (4, 1), (3, 7)):
                one = box_pulled(box_wound(box, spring), rounds)
                self.assert_box(box_wound(box_pulled(box, rounds), spring), one)


class Started(Stand):
    def test_beside_each_bound(self):
        self.assert_box(box_started((1, 0, 1, None, 8)), (1, 0, 1, 0, 8))
        for box in ((0, 0, 1, None, 8), (1, 0, 0, None, 8), (1, 0, 1, None, 7), (1, 0, 1, 3, 8), (1, 0, 1, 5, 12)):
            self.assert_box(box_started(box), box)

    def test_whoever_has_sent_waits_longer(self):
        for sent in (0, 1, 2, 3):
            self.assert_box(box_started((1, sent, 4, None, 8 + sent)), (1, sent, 4, 0, 8 + sent))
            self.assert_box(box_started((1, sent, 4, None, 7 + sent)), (1, sent, 4, None, 7 + sent))
            self.assert_box(box_started((1, sent, 4, None, 12)), (1, sent, 4, 0, 12))

    def test_all(self):
        for box in all_boxes("12"):
            self.assert_box(box_started(box), told_started(box))

    def test_twice_as_once(self):
        for box in all_boxes("12"):
            once = box_started(box)
            self.assert_box(box_started(once), once)


class Breaks(unittest.TestCase):
    def test_the_documents_row(self):
        told = [box_breaks((1, 0, 1, place, 3), "12") for place in range(12)]
        self.assertEqual(told, [True, False, False, False, True, False, True] + [False] * 5)

    def test_all(self):
        for number in BOX_NUMBERS:
            row = told_row(number)
            for box in all_boxes(number):
                self.assertIs(box_breaks(box, number), box[3] is not None and row[box[3]] == 1)

    def test_each_number(self):
        for number in SOME_NUMBERS:
            for place, tick in enumerate(told_row(number)):
                self.assertIs(box_breaks((2, 1, 3, place, 0), number), tick == 1)

    def test_with_its_wheel_still(self):
        for number in SOME_NUMBERS:
            self.assertIs(box_breaks((1, 0, 1, None, 12), number), False)

    def test_a_place_behind_the_row_is_no_error(self):
        self.assertIs(box_breaks((1, 0, 1, 6, 3), "1"), False)
        self.assertEqual(len(box_behind((1, 0, 1, 6, 3), "1", False)), 5)
        self.assertEqual(len(box_behind((1, 0, 1, 6, 3), "1", True)), 5)


class Behind(Stand):
    def test_steps_back(self):
        self.assert_box(box_behind((2, 1, 5, 1, 9), "12", True), (2, 1, 5, None, 0))
        self.assert_box(box_behind((2, 1, 5, 11, 9), "12", True), (2, 1, 5, None, 0))

    def test_goes_on(self):
        self.assert_box(box_behind((2, 1, 5, 0, 9), "12", True), (2, 1, 5, 1, 0))
        self.assert_box(box_behind((2, 1, 5, 1, 0), "12", False), (2, 1, 5, 2, 1))
        self.assert_box(box_behind((2, 1, 5, 10, 3), "12", False), (2, 1, 5, 11, 4))

    def test_its_contact_broken_and_the_wire_felt_closed(self):
        self.assert_box(box_behind((2, 1, 5, 0, 12), "12", False), (2, 1, 5, 1, 12))

    def test_the_round_is_whole(self):
        self.assert_box(box_behind((2, 1, 5, 11, 4), "12", False), (1, 2, 4, None, 5))
        self.assert_box(box_behind((4, 0, 50, 5, 4), "1", False), (3, 1, 49, None, 5))
        self.assert_box(box_behind((2, 0, 1, 11, 4), "12", False), (1, 1, 0, None, 5))

    def test_the_last_round_is_whole(self):
        self.assert_box(box_behind((1, 3, 5, 11, 4), "12", False), (0, 0, 4, None, 5))
        self.assert_box(box_behind((1, 0, 1, 11, 4), "12", False), (0, 0, 0, None, 5))

    def test_with_its_wheel_still(self):
        for left, sent in ((0, 0), (1, 3), (4, 0)):
            for quiet in range(13):
                box = (left, sent, 5, None, quiet)
                self.assert_box(box_behind(box, "12", True), (left, sent, 5, None, 0))
                self.assert_box(box_behind(box, "12", False), (left, sent, 5, None, min(12, quiet + 1)))

    def test_all(self):
        for number in BOX_NUMBERS:
            for box in all_boxes(number):
                for broken in (True, False):
                    self.assert_box(box_behind(box, number, broken), told_behind(box, number, broken))

    def test_asked_again(self):
        box = (2, 1, 5, 11, 4)
        before = copy.deepcopy(box)
        told = [box_behind(box, "12", broken) for broken in (False, True, False, True)]
        self.assertEqual(told[:2], told[2:])
        self.assertEqual(box, before)


class OneBoxAlone(unittest.TestCase):
    def test_each_round_is_its_whole_row(self):
        for number in SOME_NUMBERS[::5]:
            row = told_row(number)
            for rounds in (1, 2, 3, 4):
                wire = Wire([number], rounds, quiet=0)
                wire.pull(number)
                # A new box waits for eight quiet ticks; each later round for three and those sent.
                expected = [0] * 8
                for sent in range(rounds):
                    expected += [0] * (3 + sent if sent else 0) + list(row)
                wire.ticks(len(expected))
                self.assertEqual(wire.tape, expected)
                self.assertEqual(wire.boxes[number][:4], (0, 0, 50 - rounds, None))
                wire.ticks(30)
                self.assertEqual(wire.tape[len(expected):], [0] * 30)

    def test_the_first_waits_for_the_pull_and_for_eight_quiet_ticks(self):
        for quiet in range(13):
            wire = Wire(["12"], 1, quiet=0)
            wire.ticks(quiet)
            wire.pull("12")
            wire.ticks(30)
            self.assertEqual(wire.tape.index(1), max(8, quiet))

    def test_with_its_spring_down_it_waits_till_it_is_wound(self):
        wire = Wire(["12"], 3, spring=2)
        wire.pull("12")
        self.assertEqual([number for _, number in wire.ticks(100)], ["12", "12"])
        self.assertEqual(wire.boxes["12"], (1, 2, 0, None, 12))
        wire.wind("12")
        self.assertEqual(wire.ticks(12), [(100, "12")])
        self.assertEqual(wire.boxes["12"], (0, 0, 1, None, 5))


class SeveralBoxes(unittest.TestCase):
    def rounds_of(self, tape):
        """The rounds of a wire's tape, by its pieces up to five closed ticks."""
        found = []
        at = 0
        while 1 in tape[at:]:
            begin = tape.index(1, at)
            at = begin
            while tape[at:at + 5] != [0] * 5:
                at += 1
            at += 5
            self.assertIn(tuple(tape[begin:at]), ROWS, "a mixed round")
            found.append((begin, ROWS[tuple(tape[begin:at])]))
        return found

    def test_started_together(self):
        wire = Wire(["1", "12", "3"], 1)
        for number in ("1", "12", "3"):
            wire.pull(number)
        self.assertEqual(wire.ticks(60), [(0, "3"), (13, "12"), (28, "1")])
        self.assertEqual(self.rounds_of(wire.tape), [(0, "3"), (13, "12"), (28, "1")])

    def test_whoever_has_sent_fewer_goes_first(self):
        wire = Wire(["9", "1"], 2)
        wire.pull("9")
        wire.ticks(1)
        wire.pull("1")
        self.assertEqual([number for _, number in wire.ticks(200)], ["9", "1", "9", "1"])

    def test_no_round_is_mixed_and_each_comes_to_all(self):
        chance = Random(9)
        for many in (2, 3, 5, 12):
            for rounds in (1, 2, 3, 4):
                numbers = chance.sample(NUMBERS, many)
                wire = Wire(numbers, rounds, quiet=0)
                came, pulls = [], dict.fromkeys(numbers, 0)
                for _ in range(15):
                    number = chance.choice(numbers)
                    pulls[number] += wire.boxes[number][0] == 0
                    wire.pull(number)
                    came += wire.ticks(chance.randrange(40))
                while not wire.is_idle():
                    came += wire.tick()
                self.assertEqual(self.rounds_of(wire.tape), came)
                sent = [number for _, number in came]
                self.assertEqual({number: sent.count(number) for number in numbers},
                                 {number: pulls[number] * rounds for number in numbers})


if __name__ == "__main__":
    unittest.main()
