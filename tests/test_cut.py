"""Promise 7: cut."""

import re
import unittest

from calling import HUGE, AnswerCase, content_of, cut, one


class Refusals(AnswerCase):
    def test_kinds(self):
        for kind in (-1, 4, HUGE, -HUGE):
            self.assertEqual(one(cut(kind, 1, "a")), [-5])
        for kind in (0, 1, 2, 3):
            self.assertEqual(one(cut(kind, 1, "a")), [1, 97])

    def test_bytes_and_length(self):
        for number in (-1, 256, HUGE, -HUGE):
            self.assertEqual(one(cut(0, 1, [97, number])), [-1])
        self.assertEqual(one(cut(0, 2, [0, 255])), [2, 0, 255])
        self.assertEqual(one(cut(0, 5000, "a" * 4096)), [4096] + [97] * 4096)
        self.assertEqual(one(cut(0, 5000, "a" * 4097)), [-2])

    def test_n_below_0(self):
        self.assertEqual(one(cut(0, -1, "a")), [-8])
        self.assertEqual(one(cut(0, -HUGE, "")), [-8])

    def test_a_text_at_fault(self):
        for kind, text in ((0, "a<"), (1, 'a"'), (2, "a'"), (3, "a b"), (3, ""), (0, "a&"), (0, "a&b;"), (0, "&#256;")):
            self.assertEqual(one(cut(kind, 1, text)), [-7])
            self.assertEqual(one(cut(kind, 0, text)), [-7])
            self.assertEqual(one(cut(kind, HUGE, text)), [-7])

    def test_which_comes_first(self):
        self.assertEqual(one(cut(4, -1, [256] * 4097)), [-5])
        self.assertEqual(one(cut(0, -1, [256] * 4097)), [-1])
        self.assertEqual(one(cut(0, -1, "<" * 4097)), [-2])
        self.assertEqual(one(cut(0, -1, "<")), [-8])
        self.assertEqual(one(cut(3, -1, "")), [-8])


class Cut(AnswerCase):
    def test_the_examples(self):
        self.assertEqual(one(cut(1, 5, "ab&lt;c")), content_of("ab"))
        self.assertEqual(one(cut(1, 6, "ab&lt;c")), content_of("ab&lt;"))

    def test_n_0(self):
        for kind in (0, 1, 2, 3):
            self.assertEqual(one(cut(kind, 0, "ab")), [0])
        self.assertEqual(one(cut(3, 3, "&#32;a")), [0])
        self.assertEqual(one(cut(0, 0, "")), [0])

    def test_n_past_the_length(self):
        for n in (7, 8, 4097, HUGE):
            self.assertEqual(one(cut(2, n, "ab&lt;c")), content_of("ab&lt;c"))
        self.assertEqual(one(cut(0, 5, "")), [0])

    def test_every_n(self):
        text = "a&amp;&lt;;b&#7;&#x3c;lt;&quot;"
        pieces = re.findall("&[^;]*;|[^&]", text)
        self.assertEqual("".join(pieces), text)
        for kind in (0, 1, 2, 3):
            for n in range(len(text) + 3):
                kept = ""
                for piece in pieces:
                    if len(kept) + len(piece) > n:
                        break
                    kept += piece
                self.assertEqual(one(cut(kind, n, text)), content_of(kept))

    def test_a_long_text(self):
        text = "&#255;" * 682 + "abcd"
        self.assertEqual(one(cut(3, 4091, text)), content_of("&#255;" * 681))
        self.assertEqual(one(cut(3, 4092, text)), content_of("&#255;" * 682))


if __name__ == "__main__":
    unittest.main()
