"""Columns, widths, names and rows: [0.1], [1.1], [1.2]."""

import unittest

from fewfetches.columns import check_row, check_widths, is_name, is_whole, row_at, row_count, row_number
from tests.helpers import no_integers, no_names, no_sequences, raised, rows_of, unchanged

SMALL = [(), (1,), (4,), (64,), (1, 1), (2, 3), (3, 2), (2, 3, 4), (1, 5, 1), (2, 1, 2, 3), (2, 3, 1, 2, 2)]


class TestWhole(unittest.TestCase):
    def test_integers_without_bounds(self):
        for number in (0, 1, -1, 7, -1000, 10 ** 40):
            self.assertIs(is_whole(number), True)
            self.assertIs(is_whole(number, None, None), True)

    def test_bounds_belong_to_the_range(self):
        for number in range(-3, 8):
            self.assertIs(is_whole(number, 0, 5), 0 <= number <= 5)
            self.assertIs(is_whole(number, 2), 2 <= number)
            self.assertIs(is_whole(number, None, 2), number <= 2)
            self.assertIs(is_whole(number, low=2), 2 <= number)
            self.assertIs(is_whole(number, high=2), number <= 2)
            self.assertIs(is_whole(number, 0, 0), number == 0)

    def test_bound_of_zero_counts(self):
        self.assertIs(is_whole(-1, 0), False)
        self.assertIs(is_whole(1, None, 0), False)

    def test_empty_range_holds_nothing(self):
        self.assertIs(is_whole(0, 0, -1), False)

    def test_anything_else_is_no_integer(self):
        for thing in no_integers():
            self.assertIs(is_whole(thing), False)
            self.assertIs(is_whole(thing, 0, 1), False)


class TestNames(unittest.TestCase):
    def test_letters(self):
        for name in ("a", "z", "abc", "abcdefghijkl", "mnopqrstuvwx", "yz", "put", "gone"):
            self.assertIs(is_name(name), True)

    def test_every_letter(self):
        for sign in range(256):
            self.assertIs(is_name("b" + chr(sign)), "a" <= chr(sign) <= "z")

    def test_anything_else(self):
        for thing in no_names():
            self.assertIs(is_name(thing), False)


class TestWidths(unittest.TestCase):
    def test_right_widths_come_back_as_a_tuple(self):
        for widths in ((1,), (64,), (1, 1, 1), (64, 64), (64, 64, 1), (16, 16, 16), (1, 64, 64), (2, 3)):
            self.assertEqual(check_widths(widths), widths)
            given = unchanged(self, check_widths, list(widths))
            self.assertEqual(given, widths)
            self.assertIsInstance(given, tuple)

    def test_number_of_columns(self):
        for widths in ((), [], (1, 1, 1, 1), (2, 2, 2, 2, 2)):
            self.assertEqual(raised(check_widths, widths), ("BadWidths",))

    def test_width_out_of_range(self):
        for width in (0, -1, 65, 4096):
            for widths in ((width,), (2, width), [2, 2, width]):
                self.assertEqual(raised(check_widths, widths), ("BadWidths",))

    def test_product(self):
        self.assertEqual(check_widths((63, 65 - 1)), (63, 64))
        for widths in ((64, 64, 2), (17, 16, 16), (64, 13, 5), (64, 64, 64)):
            self.assertEqual(raised(check_widths, widths), ("BadWidths",))

    def test_anything_else(self):
        for thing in no_sequences():
            self.assertEqual(raised(check_widths, thing), ("BadWidths",))
        for thing in no_integers():
            self.assertEqual(raised(check_widths, (thing,)), ("BadWidths",))
            self.assertEqual(raised(check_widths, [2, thing]), ("BadWidths",))

    def test_result_does_not_follow_the_list(self):
        widths = [2, 3]
        checked = check_widths(widths)
        widths.append(4)
        self.assertEqual(checked, (2, 3))


class TestRows(unittest.TestCase):
    def test_right_rows(self):
        for widths in ((1,), (5,), (2, 3), (2, 1, 3)):
            for row in rows_of(widths):
                self.assertEqual(check_row(widths, row), row)
                self.assertEqual(check_row(list(widths), list(row)), row)
                self.assertIsInstance(check_row(widths, list(row)), tuple)

    def test_wrong_length(self):
        for row in ((), (0,), [0], (0, 0, 0), [0, 0, 0]):
            self.assertEqual(raised(check_row, (2, 3), row), ("BadRow", row))

    def test_wrong_value(self):
        for row in ((-1, 0), (2, 0), (0, 3), (0, -1), [5, 5], (True, 0), (0, False), [0, True]):
            error = raised(check_row, (2, 3), row)
            self.assertEqual(error, ("BadRow", row))
            self.assertIs(error[1], row)

    def test_values_just_inside_and_just_outside(self):
        self.assertEqual(check_row((64,), (63,)), (63,))
        self.assertEqual(raised(check_row, (64,), (64,)), ("BadRow", (64,)))
        self.assertEqual(check_row((1,), (0,)), (0,))
        self.assertEqual(raised(check_row, (1,), (1,)), ("BadRow", (1,)))

    def test_anything_else(self):
        for thing in no_sequences():
            error = raised(check_row, (2,), thing)
            self.assertEqual(error[0], "BadRow")
            self.assertIs(error[1], thing)
        for thing in no_integers():
            row = (thing,)
            error = raised(check_row, (2,), row)
            self.assertEqual(error[0], "BadRow")
            self.assertIs(error[1], row)

    def test_example(self):
        self.assertEqual(row_number((2, 3), (1, 0)), 3)
        self.assertEqual(row_at((2, 3), 3), (1, 0))

    def test_no_columns(self):
        self.assertEqual(row_count(()), 1)
        self.assertEqual(row_number((), ()), 0)
        self.assertEqual(row_at((), 0), ())
        self.assertEqual(row_at([], 0), ())

    def test_numbers_follow_the_ascending_order(self):
        for widths in SMALL:
            rows = rows_of(widths)
            self.assertEqual(row_count(widths), len(rows))
            self.assertEqual(row_count(list(widths)), len(rows))
            for number, row in enumerate(rows):
                self.assertEqual(row_number(widths, row), number)
                self.assertEqual(row_number(list(widths), list(row)), number)
                self.assertEqual(row_at(widths, number), row)
                self.assertEqual(row_at(list(widths), number), row)
                self.assertIsInstance(row_at(widths, number), tuple)

    def test_four_thousand_rows(self):
        self.assertEqual(row_count((16, 16, 16)), 4096)
        self.assertEqual(row_number((64, 64), (63, 63)), 4095)
        self.assertEqual(row_at((64, 64), 4095), (63, 63))
        self.assertEqual(row_at((64, 64), 64), (1, 0))


if __name__ == "__main__":
    unittest.main()
