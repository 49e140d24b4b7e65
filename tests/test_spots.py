"""Promise 10: spots, with what the document says of where a mark is taken."""

import unittest

from calling import MODES, AnswerCase, datum, drop, marked, one, several, signs, spots, tokens

# For each mode that takes a mark its spot, and what brings the text to a fine end behind the mark.
TAKING = {0: (0, ""), 11: (4, ">"), 12: (1, "\">"), 13: (2, "'>"), 14: (3, ">"), 22: (5, "</calc>")}


class Spots(AnswerCase):
    def test_no_signs_and_no_marks(self):
        self.assertEqual(one(spots("")), [0, 0])
        self.assertEqual(one(spots("<a b=c>d</a><!--e--><calc>f</calc>")), [0, 0])

    def test_lowest_and_highest_mark(self):
        self.assertEqual(one(spots([255, 256, 0, 65535])), [0, 2, 256, 0, 65535, 0])

    def test_every_spot_in_one_text(self):
        text = marked(300, "<p a=\"", 301, "\" b='", 302, "' c=d", 303, " e=", 304, "><calc>", 305, "</calc>", 306)
        self.assertEqual(one(spots(text)), [0, 7, 300, 0, 301, 1, 302, 2, 303, 3, 304, 4, 305, 5, 306, 0])

    def test_each_spot_alone(self):
        for mode, told in TAKING.items():
            self.assertEqual(one(spots(marked(MODES[mode][0], 256, told[1]))), [0, 1, 256, told[0]])
            self.assertEqual(one(spots(marked(MODES[mode][0], 65535, told[1]))), [0, 1, 65535, told[0]])

    def test_one_mark_several_times(self):
        self.assertEqual(one(spots(marked(256, 256, "<a b=", 256, ">", 256))), [0, 4, 256, 0, 256, 0, 256, 4, 256, 0])

    def test_a_value_that_is_a_mark_alone(self):
        self.assertEqual(one(spots(marked("<a b=", 256, ">"))), [0, 1, 256, 4])
        self.assertEqual(one(spots(marked("<a b=", 256, "/>"))), [0, 1, 256, 4])
        self.assertEqual(one(spots(marked("<a b=", 256, " c=", 257, ">"))), [0, 2, 256, 4, 257, 4])
        self.assertEqual(one(spots(marked("<a b=", 256, 257, ">"))), [1, 5, 6])
        self.assertEqual(one(spots(marked("<a b=", 256, "c>"))), [1, 1, 6])

    def test_behind_references(self):
        self.assertEqual(one(spots(marked("&lt;", 256))), [0, 1, 256, 0])
        self.assertEqual(one(spots(marked("<a b=\"&lt;", 256, "\">"))), [0, 1, 256, 1])
        self.assertEqual(one(spots(marked("<a b='&lt;", 256, "'>"))), [0, 1, 256, 2])
        self.assertEqual(one(spots(marked("<a b=&lt;", 256, ">"))), [0, 1, 256, 3])

    def test_several_marks_in_a_bare_value(self):
        self.assertEqual(one(spots(marked("<a b=c", 256, 257, "d", 258, ">"))), [0, 3, 256, 3, 257, 3, 258, 3])

    def test_raw_text(self):
        self.assertEqual(one(spots(marked("<calc>", 256, "a", 257, "</calc>"))), [0, 2, 256, 5, 257, 5])
        self.assertEqual(one(spots(marked("<calc>a<b", 256, "</calc>"))), [0, 1, 256, 5])
        self.assertEqual(one(spots(marked("<calc/>", 256))), [0, 1, 256, 0])
        self.assertEqual(one(spots(marked("<calc a=", 256, ">", 257, "</calc>", 258))), [0, 3, 256, 4, 257, 5, 258, 0])
        self.assertEqual(one(spots(marked("<verb>", 256, "</verb>"))), [1, 5, 6])
        self.assertEqual(one(spots(marked("<verb>a", 256, "</verb>"))), [1, 5, 7])
        self.assertEqual(one(spots(marked("<verb/>", 256))), [0, 1, 256, 0])
        self.assertEqual(one(spots(marked("<verb a=", 256, "></verb>", 257))), [0, 2, 256, 4, 257, 0])

    def test_256_marks(self):
        text = marked("<a b='", *range(256, 512), "'>")
        expected = [0, 256]
        for mark in range(256, 512):
            expected += [mark, 2]
        self.assertEqual(one(spots(text)), expected)

    def test_data_play_no_part(self):
        text = marked("<p a=", 256, ">", 257)
        told = several(spots(text), datum("<>"), spots(text), datum(""), spots(text), drop(), drop(), spots(text))
        self.assertEqual(told, [[0, 2, 256, 4, 257, 0], [1], [0, 2, 256, 4, 257, 0], [2], [0, 2, 256, 4, 257, 0],
                                [1], [0], [0, 2, 256, 4, 257, 0]])


class Faults(AnswerCase):
    def test_every_mode_that_takes_no_mark(self):
        for mode, told in MODES.items():
            if mode not in TAKING:
                self.assertEqual(one(spots(marked(told[0], 256))), [1, 5, len(told[0])], mode)

    def test_modes_that_take_a_mark_and_have_not_ended(self):
        for mode in (11, 12, 13, 14, 22):
            begin = MODES[mode][0]
            self.assertEqual(one(spots(marked(begin, 256))), [1, 7, len(begin) + 1], mode)

    def test_raw_text_that_is_no_longer_mode_22(self):
        for text in ("<calc><", "<calc>a<<", "<calc></", "<calc></calc", "<verb>", "<verb><", "<verb></verb"):
            self.assertEqual(one(spots(marked(text, 256))), [1, 5, len(text)])

    def test_a_fault_is_told_without_the_marks_ahead_of_it(self):
        self.assertEqual(one(spots(marked(256, 257, "<>"))), [1, 1, 3])
        self.assertEqual(one(spots(marked(256, "&"))), [1, 7, 2])
        self.assertEqual(one(spots(marked(256, "&#256;", 257))), [1, 4, 6])
        self.assertEqual(one(spots(marked("<a b=", 256, " b>"))), [1, 3, 8])
        self.assertEqual(one(spots(marked("<calc>", 256, "</b"))), [1, 6, 9])
        self.assertEqual(one(spots(marked(256, "<" + "a" * 33))), [1, 2, 34])

    def test_the_first_fault_is_told(self):
        self.assertEqual(one(spots(marked("<", 256, "<"))), [1, 5, 1])
        self.assertEqual(one(spots(marked("<<", 256))), [1, 1, 1])

    def test_the_same_faults_as_tokens(self):
        for mode, told in MODES.items():
            for sign in (0, 33, 34, 38, 39, 45, 47, 59, 60, 61, 62, 97, 98, 256):
                text = signs(told[0]) + [sign]
                answer = one(tokens(text))
                if answer[0] == 1:
                    self.assertEqual(one(spots(text)), answer, (mode, sign))
                else:
                    self.assertEqual(one(spots(text))[0], 0, (mode, sign))


if __name__ == "__main__":
    unittest.main()
