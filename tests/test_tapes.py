"""Tapes: what one is, its pieces, and its rounds [13]."""

import copy
import re
import unittest
from random import Random

from callwheel.tapes import is_tape, parted, rounds_on
from things import NUMBERS, OTHER_KINDS, ROWS, SOME_NUMBERS, WRONG_TEXTS, Wire, told_row

# Keys, quiet, what begins with a break and has five closed ticks at its end, and what has not.
PIECE = re.compile("(2+)|(0+)|(1[01]*?00000)|(1[01]*)")


def told_pieces(tape):
    """The pieces of a tape by the words of [13], read once more over its text."""
    text = "".join(str(sign) for sign in tape)
    pieces = []
    for found in PIECE.finditer(text):
        signs = tuple(int(sign) for sign in found.group())
        word = ("key", "quiet", "round", "spoilt")[found.lastindex - 1]
        if word == "round" and signs not in ROWS:
            word = "odd"
        if word == "spoilt" and found.end() == len(text):
            word = "begun"
        pieces.append((word, ROWS[signs] if word == "round" else len(signs), found.end()))
    return pieces


def some_strokes(chance):
    """A row, a row with a sign otherwise, a beginning of a row, or any breaks and closed ticks."""
    row = list(told_row(chance.choice(NUMBERS)))
    shape = chance.randrange(4)
    if shape == 1:
        row[chance.randrange(len(row))] ^= 1
    elif shape == 2:
        row = row[:chance.randrange(1, len(row))]
    elif shape == 3:
        row = [chance.randrange(2) for _ in range(chance.randrange(1, 70))]
    return row


def some_tape(chance, most):
    signs = []
    while len(signs) < most:
        signs += [[0], [2], some_strokes(chance)][chance.randrange(3)] * chance.choice((1, 1, 1, 2, 3))
    return tuple(signs[:most])


class IsTape(unittest.TestCase):
    def test_tapes(self):
        for tape in ((), (0,), (1,), (2,), (0, 1, 2), (2, 2, 1, 0, 0), (0,) * 6000, (1,) * 6000, (2, 1, 0) * 2000):
            self.assertIs(is_tape(tape), True)

    def test_more_than_six_thousand(self):
        for sign in (0, 1, 2):
            self.assertIs(is_tape((sign,) * 6001), False)

    def test_other_kinds(self):
        for thing in OTHER_KINDS + WRONG_TEXTS + ["0", "012", ".xK", [0, 1, 2], [], ((0, 1),), [(0,)]]:
            told = isinstance(thing, tuple) and all(type(sign) is int and sign in (0, 1, 2) for sign in thing)
            self.assertIs(is_tape(thing), told, thing)

    def test_a_wrong_sign_at_each_place(self):
        tape = (0, 1, 2, 0, 0, 1, 2)
        for wrong in (True, False, 3, -1, None, "0", "", (), (0,), [], [0], 10 ** 30 - 1, 1 - 10 ** 30):
            for at in range(len(tape)):
                self.assertIs(is_tape(tape[:at] + (wrong,) + tape[at + 1:]), False, (wrong, at))
                self.assertIs(is_tape(tape[:at] + (wrong,) + tape[at:]), False, (wrong, at))
            self.assertIs(is_tape((0,) * 5999 + (wrong,)), False)
            self.assertIs(is_tape((wrong,) + (0,) * 5999), False)

    def test_what_was_handed_in_stays(self):
        thing = [0, [1, (2,)], True]
        before = copy.deepcopy(thing)
        self.assertIs(is_tape(thing), False)
        self.assertIs(is_tape(thing), False)
        self.assertEqual(thing, before)


class Tapes(unittest.TestCase):
    def assert_parted(self, tape, expected):
        before = copy.deepcopy(tape)
        told = parted(tape)
        self.assertEqual(told, tuple(expected))
        self.assertIs(type(told), tuple)
        for piece in told:
            self.assertIs(type(piece), tuple)
            self.assertEqual([type(part) for part in piece], [str, str if piece[0] == "round" else int])
        self.assertEqual(parted(tape), told)
        self.assertEqual(tape, before)

    def assert_as_told(self, tape):
        pieces = told_pieces(tape)
        self.assert_parted(tape, [piece[:2] for piece in pieces])
        rounds = rounds_on(tape)
        self.assertEqual(rounds, tuple((end - 1, worth) for word, worth, end in pieces if word == "round"))
        self.assertIs(type(rounds), tuple)
        for line in rounds:
            self.assertIs(type(line), tuple)
            self.assertEqual([type(part) for part in line], [int, str])


class Parted(Tapes):
    def test_empty(self):
        self.assert_parted((), ())

    def test_quiet_and_key(self):
        for many in (1, 2, 4, 5, 6, 12, 6000):
            self.assert_parted((0,) * many, [("quiet", many)])
            self.assert_parted((2,) * many, [("key", many)])
        self.assert_parted((0, 0, 2, 2, 2, 0, 2), [("quiet", 2), ("key", 3), ("quiet", 1), ("key", 1)])

    def test_the_documents_pieces(self):
        tape = (2, 2) + (0,) * 8 + (1, 0, 0, 0, 1, 0, 1, 0, 0, 0, 0, 0) + (1, 0, 1)
        self.assert_parted(tape, [("key", 2), ("quiet", 8), ("round", "12"), ("begun", 3)])

    def test_each_round(self):
        for number in NUMBERS:
            row = told_row(number)
            self.assertEqual(parted(row), (("round", number),))
            self.assertEqual(parted((0, *row, 0, *row, *row, 2)), (
                ("quiet", 1), ("round", number), ("quiet", 1), ("round", number), ("round", number), ("key", 1)))

    def test_rounds_beside_one_another(self):
        self.assert_parted(told_row("12") + told_row("3"), [("round", "12"), ("round", "3")])
        self.assert_parted(told_row("12") + (0,) + told_row("3"), [("round", "12"), ("quiet", 1), ("round", "3")])

    def test_odd(self):
        end = (0,) * 5
        odd = [
            (1, 1), (1, 0, 1, 1), (1, 1, 0, 1),
            (1, 0, 0, 1), (1, 0, 0, 0, 0, 1), (1, 0, 0, 0, 1, 0, 0, 1), (1, 0, 0, 0, 1, 0, 0, 0, 0, 1),
            (1, 0) * 9 + (1,), (1, 0, 0, 0) + (1, 0) * 9 + (1,),
            (1, 0, 0, 0) * 4 + (1,),
            told_row("9996")[:-5], told_row("997")[:-5],
        ]
        for strokes in odd:
            self.assert_parted(strokes + end, [("odd", len(strokes) + 5)])
            self.assert_parted(strokes + end + (0, 0), [("odd", len(strokes) + 5), ("quiet", 2)])
            self.assert_parted(strokes + end + told_row("1"), [("odd", len(strokes) + 5), ("round", "1")])
        self.assert_parted((1, 0) * 9 + (0,) * 4, [("round", "9")])
        self.assert_parted((1, 0, 0, 0) * 3 + (1,) + end, [("round", "1111")])

    def test_spoilt_by_the_key(self):
        row = told_row("12")
        for many in range(1, len(row)):
            self.assert_parted(row[:many] + (2,), [("spoilt", many), ("key", 1)])
            self.assert_parted(row[:many] + (2, 2) + row, [("spoilt", many), ("key", 2), ("round", "12")])
        self.assert_parted(row + (2,), [("round", "12"), ("key", 1)])

    def test_closed_ticks_on_both_sides_of_the_key_are_not_put_together(self):
        for ahead in range(5):
            tape = (1,) + (0,) * ahead + (2,) + (0,) * 7
            self.assert_parted(tape, [("spoilt", 1 + ahead), ("key", 1), ("quiet", 7)])

    def test_begun_at_the_end(self):
        row = told_row("12")
        for many in range(1, len(row)):
            self.assert_parted(row[:many], [("begun", many)])
            self.assert_parted((0, 2) + row[:many], [("quiet", 1), ("key", 1), ("begun", many)])
        self.assert_parted(row, [("round", "12")])

    def test_six_thousand_signs_by_turns(self):
        self.assert_parted((1, 0) * 3000, [("begun", 6000)])
        self.assert_parted((0, 1) * 3000, [("quiet", 1), ("begun", 5999)])
        self.assert_parted((1,) * 6000, [("begun", 6000)])
        self.assert_parted((0, 2) * 3000, [("quiet", 1), ("key", 1)] * 3000)
        self.assert_parted((1, 2) * 3000, [("spoilt", 1), ("key", 1)] * 3000)
        self.assert_parted((1, 0) * 2997 + (1, 0, 0, 0, 0, 0), [("odd", 6000)])
        self.assert_parted(told_row("1") * 1000, [("round", "1")] * 1000)

    def test_each_short_tape(self):
        tapes = [()]
        for _ in range(8):
            tapes = [(*tape, sign) for tape in tapes for sign in (0, 1, 2)]
            for tape in tapes[::1 if len(tapes) < 3000 else 5]:
                self.assert_as_told(tape)

    def test_pieces_put_together_are_parted_into_just_these(self):
        chance = Random(131)
        for _ in range(200):
            pieces, tape, last = [], (), None
            for _ in range(chance.randrange(1, 30)):
                word = chance.choice([word for word in ("key", "quiet", "round") if word != last or word == "round"])
                many = chance.randrange(1, 9)
                worth = chance.choice(NUMBERS) if word == "round" else many
                tape += {"key": (2,) * many, "quiet": (0,) * many}.get(word) or told_row(worth)
                pieces.append((word, worth))
                last = word
            begun = chance.choice(((), told_row(chance.choice(NUMBERS))[:-1]))
            self.assert_parted(tape + begun, pieces + ([("begun", len(begun))] if begun else []))

    def test_all_ticks_of_a_tape_are_in_its_pieces(self):
        chance = Random(132)
        for most in (1, 10, 100, 100, 700, 700, 6000):
            tape = some_tape(chance, most)
            lengths = [len(told_row(worth)) if word == "round" else worth for word, worth in parted(tape)]
            self.assertEqual(sum(lengths), len(tape))

    def test_some_tapes(self):
        chance = Random(133)
        for _ in range(300):
            self.assert_as_told(some_tape(chance, chance.choice((3, 20, 80, 200))))
        for _ in range(5):
            self.assert_as_told(some_tape(chance, 6000))


class RoundsOn(Tapes):
    def test_none(self):
        for tape in ((), (0, 0, 0), (2, 2), (1, 0, 0, 0, 0), (1, 1, 0, 0, 0, 0, 0), (1, 0, 0, 0, 0, 2)):
            self.assertEqual(rounds_on(tape), ())

    def test_the_tick_of_the_last_sign(self):
        self.assertEqual(rounds_on(told_row("1")), ((5, "1"),))
        self.assertEqual(rounds_on((0, 0) + told_row("1")), ((7, "1"),))
        self.assertEqual(rounds_on(told_row("1") + (0,) * 9 + told_row("12") + (2,)), ((5, "1"), (26, "12")))

    def test_each_number(self):
        for number in SOME_NUMBERS:
            row = told_row(number)
            self.assertEqual(rounds_on((2,) + row + row), ((len(row), number), (2 * len(row), number)))

    def test_of_a_wire_that_was_walked(self):
        chance = Random(134)
        for rounds in (1, 2, 3, 4):
            numbers = chance.sample(NUMBERS, 8)
            wire = Wire(numbers, rounds, quiet=0)
            came = []
            for number in numbers:
                wire.pull(number)
                came += wire.ticks(chance.randrange(60))
            came += wire.ticks(1500)
            self.assertEqual(len(came), 8 * rounds)
            ends = tuple((begin + len(told_row(number)) - 1, number) for begin, number in came)
            self.assertEqual(rounds_on(tuple(wire.tape)), ends)


if __name__ == "__main__":
    unittest.main()
