"""Texts of tapes and of pieces [22]."""

import copy
import unittest
from random import Random

from callwheel import errors
from callwheel.tapes import parted
from callwheel.texts import pieces_text, read_tape, tape_text
from things import NUMBERS, OTHER_KINDS, SIGNS, WRONG_TEXTS, told_row


def some_tape(chance, many):
    return tuple(chance.choice((0, 0, 0, 1, 2)) for _ in range(many))


class TapeText(unittest.TestCase):
    def test_some(self):
        self.assertEqual(tape_text(()), "")
        self.assertEqual(tape_text((0,)), ".")
        self.assertEqual(tape_text((1,)), "x")
        self.assertEqual(tape_text((2,)), "K")
        self.assertEqual(tape_text((2, 2, 0, 1, 0, 0)), "KK.x..")
        self.assertEqual(tape_text(told_row("12")), "x...x.x.....")

    def test_six_thousand(self):
        for sign, text in ((0, "."), (1, "x"), (2, "K")):
            self.assertEqual(tape_text((sign,) * 6000), text * 6000)

    def test_by_chance(self):
        chance = Random(221)
        for many in (1, 2, 10, 100, 1000, 6000):
            tape = some_tape(chance, many)
            told = tape_text(tape)
            self.assertEqual(told, "".join({0: ".", 1: "x", 2: "K"}[sign] for sign in tape))
            self.assertIs(type(told), str)
            self.assertEqual(tape_text(tape), told)


class ReadTape(unittest.TestCase):
    def assert_no_text(self, thing):
        before = copy.deepcopy(thing)
        with self.assertRaises(errors.WheelError) as refused:
            read_tape(thing)
        self.assertIs(type(refused.exception), errors.NoText)
        self.assertEqual(thing, before)

    def test_some(self):
        self.assertEqual(read_tape(""), ())
        self.assertEqual(read_tape("."), (0,))
        self.assertEqual(read_tape("x"), (1,))
        self.assertEqual(read_tape("K"), (2,))
        self.assertEqual(read_tape("KK.x.."), (2, 2, 0, 1, 0, 0))

    def test_the_text_of_a_tape_read_is_the_tape(self):
        chance = Random(222)
        for many in (0, 1, 2, 10, 100, 1000, 6000):
            tape = some_tape(chance, many)
            told = read_tape(tape_text(tape))
            self.assertEqual(told, tape)
            self.assertIs(type(told), tuple)
            self.assertTrue(all(type(sign) is int for sign in told))

    def test_each_other_sign(self):
        for sign in SIGNS:
            if sign in ".xK":
                self.assertEqual(len(read_tape(sign)), 1)
                continue
            for text in (sign, "." + sign, sign + "K", "..x" + sign + "...", ". " + sign, "." * 999 + sign):
                self.assert_no_text(text)

    def test_other_texts(self):
        for text in WRONG_TEXTS + ["none", "-", "X", "k", ".x K", ".,x", " .", ". ", "..\n", "0", "012", "xx.x.-"]:
            if text not in ("", "x"):
                self.assert_no_text(text)

    def test_more_signs_than_a_tape_has(self):
        self.assertEqual(len(read_tape("." * 6000)), 6000)
        self.assert_no_text("." * 6001)

    def test_what_is_no_text(self):
        for thing in OTHER_KINDS + [(".",), [".", "x"], ("x", "."), (0, 1, 2), [0, 1, 2]]:
            self.assert_no_text(thing)


class PiecesText(unittest.TestCase):
    def test_none(self):
        self.assertEqual(pieces_text(()), "none")

    def test_the_documents(self):
        pieces = (("key", 2), ("quiet", 8), ("round", "12"), ("begun", 3))
        self.assertEqual(pieces_text(pieces), "key 2, quiet 8, round 12, begun 3")

    def test_each_word(self):
        for word in ("key", "quiet", "odd", "spoilt", "begun"):
            for many in (1, 2, 58, 6000):
                self.assertEqual(pieces_text(((word, many),)), f"{word} {many}")
        for number in NUMBERS[::50]:
            self.assertEqual(pieces_text((("round", number),)), "round " + number)

    def test_pieces_that_no_tape_tells(self):
        pieces = (("begun", 6000), ("quiet", 1), ("quiet", 1), ("key", 3), ("key", 6000), ("spoilt", 1), ("odd", 1))
        self.assertEqual(pieces_text(pieces), "begun 6000, quiet 1, quiet 1, key 3, key 6000, spoilt 1, odd 1")
        self.assertEqual(pieces_text((("key", 1),) * 6000), ", ".join(["key 1"] * 6000))

    def test_of_tapes(self):
        chance = Random(223)
        for many in (0, 1, 5, 50, 500):
            tape = some_tape(chance, many)
            told = pieces_text(parted(tape))
            self.assertEqual(told, ", ".join(f"{word} {worth}" for word, worth in parted(tape)) or "none")
            self.assertIs(type(told), str)


if __name__ == "__main__":
    unittest.main()
