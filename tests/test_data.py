"""Promises 1 to 3: begin, datum, drop."""

import unittest

from calling import HUGE, AnswerCase, begin, datum, drop, escape, one, several


class Begin(AnswerCase):
    def test_begin_answers_0(self):
        self.assertEqual(one(begin()), [0])

    def test_begin_leaves_no_data(self):
        self.assertEqual(several(datum("a"), datum("b"), begin(), drop()), [[1], [2], [0], [-4]])

    def test_data_are_counted_anew_behind_begin(self):
        self.assertEqual(several(datum("a"), begin(), datum("b"), datum("c")), [[1], [0], [1], [2]])


class Datum(AnswerCase):
    def test_counts_the_data(self):
        self.assertEqual(several(datum("<a>"), datum(""), datum([0, 255])), [[1], [2], [3]])

    def test_a_number_that_is_no_byte(self):
        for number in (-1, 256, HUGE, -HUGE):
            self.assertEqual(one(datum([97, number, 98])), [-1])
            self.assertEqual(one(datum([number])), [-1])

    def test_512_bytes_and_one_more(self):
        self.assertEqual(one(datum([7] * 512)), [1])
        self.assertEqual(one(datum([7] * 513)), [-2])

    def test_no_byte_comes_ahead_of_too_long(self):
        self.assertEqual(one(datum([7] * 512 + [256])), [-1])
        self.assertEqual(one(datum([7] * 4999 + [-1])), [-1])

    def test_64_data_and_one_more(self):
        told = several(*[datum("x")] * 65, drop(), datum("y"), datum("z"))
        self.assertEqual(told[:64], [[count] for count in range(1, 65)])
        self.assertEqual(told[64:], [[-3], [63], [64], [-3]])

    def test_the_other_refusals_come_ahead_of_too_many(self):
        told = several(*[datum("x")] * 64, datum([256]), datum([0] * 513), datum([256] * 513), datum(""))
        self.assertEqual(told[64:], [[-1], [-2], [-1], [-3]])

    def test_a_refused_datum_is_not_kept(self):
        told = several(datum("a"), datum([256]), datum([0] * 513), datum("b"), drop(), drop(), drop())
        self.assertEqual(told, [[1], [-1], [-2], [2], [1], [0], [-4]])


class Drop(AnswerCase):
    def test_without_data(self):
        self.assertEqual(one(drop()), [-4])

    def test_counts_down(self):
        told = several(datum("a"), datum("b"), drop(), drop(), drop(), datum("c"))
        self.assertEqual(told, [[1], [2], [1], [0], [-4], [1]])

    def test_from_64_to_63(self):
        self.assertEqual(several(*[datum("x")] * 64, drop())[-1], [63])


class OtherCalls(AnswerCase):
    def test_they_change_no_data(self):
        told = several(datum("a"), escape(0, "<"), escape(4, "<"), escape(0, [256]), drop(), drop())
        self.assertEqual(told, [[1], [4, 38, 108, 116, 59], [-5], [-1], [0], [-4]])


if __name__ == "__main__":
    unittest.main()
