"""Promises [4] and [8]: gaps as bytes, and back."""

import unittest

from reedtapes.errors import BadBytes, BadNumber
from reedtapes.gaps import MOST_GAP, gap_bytes, gap_read

PAIRS = [
    (0, [0]),
    (1, [1]),
    (64, [64]),
    (127, [127]),
    (128, [129, 0]),
    (129, [129, 1]),
    (300, [130, 44]),
    (16383, [255, 127]),
    (16384, [129, 128, 0]),
    (16385, [129, 128, 1]),
    (2097151, [255, 255, 127]),
    (2097152, [129, 128, 128, 0]),
    (2097153, [129, 128, 128, 1]),
    (268435454, [255, 255, 255, 126]),
    (268435455, [255, 255, 255, 127]),
]


class GapBytes(unittest.TestCase):
    def test_the_most(self):
        self.assertEqual(MOST_GAP, 268435455)

    def test_each_length_and_beside_each_bound(self):
        for number, row in PAIRS:
            self.assertEqual(gap_bytes(number), row, number)

    def test_beyond(self):
        for number in (-1, -127, -128, -268435455, -10 ** 29, 268435456, 268435457, 2 ** 35, 10 ** 29):
            with self.assertRaises(BadNumber) as told:
                gap_bytes(number)
            self.assertEqual(told.exception.called, "badnumber")

    def test_by_name(self):
        self.assertEqual(gap_bytes(number=128), [129, 0])

    def test_a_new_list_each_time(self):
        first = gap_bytes(300)
        first.append(9)
        self.assertEqual(gap_bytes(300), [130, 44])


class GapRead(unittest.TestCase):
    def refused(self, at, *things):
        with self.assertRaises(BadBytes) as told:
            gap_read(*things)
        self.assertEqual(told.exception.at, at, things)

    def test_each_length(self):
        for number, row in PAIRS:
            self.assertEqual(gap_read(row), (number, len(row)))

    def test_at_each_place_of_a_row(self):
        for number, row in PAIRS:
            for ahead in ([], [0], [128, 128, 255], [255] * 9):
                self.assertEqual(gap_read(ahead + row + [255, 128], len(ahead)), (number, len(ahead) + len(row)))

    def test_a_gap_from_its_middle(self):
        row = [129, 130, 131, 4]
        self.assertEqual(gap_read(row, 1), (2 * 128 * 128 + 3 * 128 + 4, 4))
        self.assertEqual(gap_read(row, 3), (4, 4))

    def test_all_of_one_and_two_bytes(self):
        for number in range(16384):
            row = gap_bytes(number)
            self.assertEqual(gap_read(row + [7]), (number, 1 if number < 128 else 2))

    def test_a_leading_nought(self):
        self.refused(0, [128])
        self.refused(0, [128, 0])
        self.refused(0, [128, 129, 1])
        self.refused(2, [5, 6, 128, 3], 2)

    def test_a_nought_further_on_is_none(self):
        self.assertEqual(gap_read([129, 128, 128, 0]), (2097152, 4))

    def test_four_bytes_that_go_on(self):
        self.refused(3, [255, 255, 255, 255, 0])
        self.refused(3, [129, 128, 128, 128])
        self.refused(3, [129, 128, 128, 128, 0])
        self.refused(5, [0, 0, 129, 129, 129, 129, 1], 2)

    def test_a_row_that_ends_too_early(self):
        self.refused(0, [])
        self.refused(1, [129])
        self.refused(2, [255, 255])
        self.refused(3, [129, 128, 128])
        self.refused(4, [1, 2, 3, 255], 3)
        self.refused(3, [1, 2, 3], 3)

    def test_by_name_and_the_place_left_out(self):
        self.assertEqual(gap_read(row=[1, 2], at=1), (2, 2))
        self.assertEqual(gap_read(row=[1, 2]), (1, 1))
        self.assertEqual(gap_read([1, 2]), (1, 1))
        self.assertRaises(BadBytes, gap_read, row=[1, 128], at=1)

    def test_the_row_is_left_as_it_is(self):
        row = [129, 0, 128]
        self.assertEqual(gap_read(row), (128, 2))
        self.refused(2, row, 2)
        self.assertEqual(row, [129, 0, 128])


if __name__ == "__main__":
    unittest.main()
