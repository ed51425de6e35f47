"""Numbers, their rows, and who goes ahead [4, 5]."""

import copy
import unittest

from callwheel.wheels import goes_ahead, is_number, number_of, row_of
from things import (
    NUMBERS, OTHER_KINDS, ROWS, SIGNS, SOME_NUMBERS, WRONG_TEXTS, figures_together, texts_of_figures, told_number,
    told_row,
)

STRANGE_TICKS = (True, False, None, 2, -1, 10 ** 29, "", "0", "1", (), (0,), (1,), [], [0], [1], ([],))


class IsNumber(unittest.TestCase):
    def test_all_texts_of_one_to_four_figures(self):
        for text in texts_of_figures(4):
            self.assertIs(is_number(text), figures_together(text) <= 24, text)

    def test_figures_together(self):
        for text in ("996", "9951", "6666", "3777", "1599"):
            self.assertEqual(figures_together(text), 24)
            self.assertIs(is_number(text), True, text)
        for text in ("997", "9952", "6667", "7666", "2599"):
            self.assertEqual(figures_together(text), 25)
            self.assertIs(is_number(text), False, text)

    def test_five_figures(self):
        for text in ("11111", "12345", "54321", "99999"):
            self.assertIs(is_number(text), False, text)

    def test_wrong_texts(self):
        for text in WRONG_TEXTS:
            self.assertIs(is_number(text), False, text)

    def test_another_sign_at_any_place(self):
        for number in SOME_NUMBERS:
            for at in range(len(number)):
                for sign in SIGNS:
                    text = number[:at] + sign + number[at + 1:]
                    self.assertIs(is_number(text), told_number(text), text)

    def test_a_sign_put_in_at_any_place(self):
        for number in SOME_NUMBERS:
            for at in range(len(number) + 1):
                for sign in SIGNS:
                    text = number[:at] + sign + number[at:]
                    self.assertIs(is_number(text), told_number(text), text)

    def test_a_sign_left_out(self):
        for number in SOME_NUMBERS:
            for at in range(len(number)):
                text = number[:at] + number[at + 1:]
                self.assertIs(is_number(text), told_number(text), text)

    def test_other_things(self):
        for thing in OTHER_KINDS:
            before = copy.deepcopy(thing)
            self.assertIs(is_number(thing), False)
            self.assertEqual(thing, before)


class RowOf(unittest.TestCase):
    def test_the_documents_own(self):
        self.assertEqual(row_of("12"), (1, 0, 0, 0, 1, 0, 1, 0, 0, 0, 0, 0))

    def test_least_and_longest(self):
        self.assertEqual(row_of("1"), (1, 0, 0, 0, 0, 0))
        self.assertEqual(len(row_of("6666")), 58)
        self.assertEqual(max(len(row_of(number)) for number in NUMBERS), 58)

    def test_all_as_the_document_builds_them(self):
        for number in NUMBERS:
            self.assertEqual(row_of(number), told_row(number), number)

    def test_all_are_tuples_of_whole_numbers(self):
        for number in NUMBERS:
            row = row_of(number)
            self.assertIs(type(row), tuple)
            self.assertTrue(all(type(tick) is int and tick in (0, 1) for tick in row), number)

    def test_strokes_and_quiet(self):
        for number in NUMBERS:
            signs = "".join(str(tick) for tick in row_of(number))
            self.assertLessEqual(len(signs), 58)
            self.assertTrue(signs.startswith("1"), number)
            self.assertNotIn("11", signs, number)
            self.assertEqual(signs.find("00000"), len(signs) - 5, number)
            self.assertNotIn("0000", signs[:-5].rstrip("0"), number)
            self.assertEqual(signs.count("1"), figures_together(number))

    def test_none_is_the_beginning_of_another(self):
        rows = sorted(row_of(number) for number in NUMBERS)
        # In order, a row that begins others stands right ahead of one of them.
        for row, following in zip(rows, rows[1:]):
            self.assertNotEqual(row, following[:len(row)])


class NumberOf(unittest.TestCase):
    def assert_told(self, thing):
        """Of a tuple of plain ticks the number by the table of all rows; asked twice the same."""
        expected = ROWS.get(thing)
        self.assertEqual(number_of(thing), expected, thing)
        self.assertEqual(number_of(thing), expected, thing)

    def assert_none(self, thing):
        self.assertIsNone(number_of(thing))
        self.assertIsNone(number_of(thing))

    def test_each_numbers_row(self):
        for number in NUMBERS:
            told = number_of(row_of(number))
            self.assertIs(type(told), str)
            self.assertEqual(told, number)

    def test_a_tick_put_otherwise(self):
        for number in SOME_NUMBERS:
            row = row_of(number)
            for at in range(len(row)):
                self.assert_told(row[:at] + (1 - row[at],) + row[at + 1:])

    def test_a_tick_left_out(self):
        for number in SOME_NUMBERS:
            row = row_of(number)
            for at in range(len(row)):
                self.assert_told(row[:at] + row[at + 1:])

    def test_a_tick_put_in(self):
        for number in SOME_NUMBERS:
            row = row_of(number)
            for at in range(len(row) + 1):
                self.assert_told(row[:at] + (0,) + row[at:])
                self.assert_told(row[:at] + (1,) + row[at:])

    def test_all_short_tuples_of_ticks(self):
        for many in range(15):
            for code in range(2 ** many):
                self.assert_told(tuple(code >> at & 1 for at in range(many)))

    def test_what_is_no_tick_at_any_place(self):
        for number in SOME_NUMBERS[::5]:
            row = row_of(number)
            for at in range(len(row) + 1):
                for strange in STRANGE_TICKS:
                    self.assert_none(row[:at] + (strange,) + row[at + 1:])
                    self.assert_none(row[:at] + (strange,) + row[at:])

    def test_truths_are_no_ticks(self):
        for number in SOME_NUMBERS:
            row = row_of(number)
            self.assertEqual(number_of(row), number)
            for at, tick in enumerate(row):
                self.assert_none(row[:at] + (tick == 1,) + row[at + 1:])
            self.assert_none(tuple(tick == 1 for tick in row))
            self.assertEqual(number_of(row), number)

    def test_two_rows_behind_one_another(self):
        for one in SOME_NUMBERS[::3]:
            for other in SOME_NUMBERS[::5]:
                self.assert_none(row_of(one) + row_of(other))

    def test_rows_of_what_is_no_number(self):
        for text in ("997", "9997", "6667", "9999", "11111", "99999", "0", "10", "01", "101"):
            self.assert_none(told_row(text))
        self.assert_none(())
        self.assert_none((0, 0))

    def test_more_than_nine_strokes(self):
        for many in range(10, 30):
            self.assert_none((1, 0) * many + (0, 0, 0, 0))

    def test_long_tuples(self):
        for ticks in ((0,) * 2999, (1,) * 2999, (1, 0) * 1499, row_of("12") * 240, row_of("12") + (0,) * 2900):
            self.assert_none(ticks)

    def test_lists(self):
        for number in SOME_NUMBERS:
            row = row_of(number)
            self.assert_none(list(row))
            self.assert_none((row,))
            self.assert_none([row])
            self.assert_none((list(row),))
            self.assert_none(number)

    def test_other_things(self):
        for thing in OTHER_KINDS + WRONG_TEXTS:
            before = copy.deepcopy(thing)
            self.assert_none(thing)
            self.assertEqual(thing, before)


class GoesAhead(unittest.TestCase):
    def assert_ahead(self, greater, lesser):
        self.assertIs(goes_ahead(greater, lesser), True, (greater, lesser))
        self.assertIs(goes_ahead(lesser, greater), False, (greater, lesser))

    def test_as_the_rows_first_differ(self):
        for one in SOME_NUMBERS:
            for other in SOME_NUMBERS:
                differ = [a for a, b in zip(told_row(one), told_row(other)) if a != b]
                if one != other:
                    self.assertIs(goes_ahead(one, other), differ[0] == 1, (one, other))

    def test_as_the_texts_are_ordered(self):
        texts = sorted(NUMBERS)
        for apart in (1, 2, 3, 10, 100, 1000):
            for lesser, greater in zip(texts, texts[apart:]):
                self.assert_ahead(greater, lesser)

    def test_a_figure_more(self):
        for number in NUMBERS:
            for figure in "123456789":
                if told_number(number + figure):
                    self.assert_ahead(number + figure, number)

    def test_by_figures_not_by_worth(self):
        self.assert_ahead("9", "1111")
        self.assert_ahead("2", "19")
        self.assert_ahead("21", "2")


if __name__ == "__main__":
    unittest.main()
