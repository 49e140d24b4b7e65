"""Promises 4 and 5: escape and shortest."""

import itertools
import unittest

from calling import HUGE, AnswerCase, back, content_of, escape, one, shortest

BARE = [byte for byte in range(256) if byte not in (9, 10, 13, 32, 34, 38, 39, 60, 61, 62, 96)]
PLAIN = {
    0: [byte for byte in range(256) if byte not in (38, 60)],
    1: [byte for byte in range(256) if byte not in (38, 34)],
    2: [byte for byte in range(256) if byte not in (38, 39)],
    3: BARE,
}


def written(answer):
    return "".join(chr(sign) for sign in answer[1:])


class Refusals(AnswerCase):
    def test_kinds(self):
        for call in (escape, shortest):
            for kind in (-1, 4, HUGE, -HUGE):
                self.assertEqual(one(call(kind, "a")), [-5])
            for kind in (0, 1, 2, 3):
                self.assertEqual(one(call(kind, "a")), [1, 97])

    def test_bytes(self):
        for call in (escape, shortest):
            for kind in (0, 1, 2, 3):
                for number in (-1, 256, HUGE, -HUGE):
                    self.assertEqual(one(call(kind, [97, number])), [-1])
                self.assertEqual(len(one(call(kind, [0, 255]))), one(call(kind, [0, 255]))[0] + 1)

    def test_4096_bytes_and_one_more(self):
        for call in (escape, shortest):
            for kind in (0, 1, 2, 3):
                self.assertEqual(one(call(kind, "a" * 4096)), [4096] + [97] * 4096)
                self.assertEqual(one(call(kind, "a" * 4097)), [-2])
                self.assertEqual(one(call(kind, "a" * 5000)), [-2])

    def test_which_comes_first(self):
        for call in (escape, shortest):
            self.assertEqual(one(call(4, [256] * 4097)), [-5])
            self.assertEqual(one(call(-1, [-1])), [-5])
            self.assertEqual(one(call(4, [0] * 4097)), [-5])
            self.assertEqual(one(call(3, [0] * 4096 + [256])), [-1])

    def test_kind_counts_ahead_of_no_bytes(self):
        self.assertEqual(one(shortest(4, "")), [-5])


class Escape(AnswerCase):
    def test_the_example(self):
        self.assertEqual(one(escape(3, [97, 32, 47])), content_of("a&#32;&#47;"))

    def test_no_bytes(self):
        for kind in (0, 1, 2, 3):
            self.assertEqual(one(escape(kind, "")), [0])

    def test_the_same_bytes_for_each_kind(self):
        text = "a<&>\"'b"
        self.assertEqual(one(escape(0, text)), content_of("a&lt;&amp;>\"'b"))
        self.assertEqual(one(escape(1, text)), content_of("a<&amp;>&quot;'b"))
        self.assertEqual(one(escape(2, text)), content_of("a<&amp;>\"&apos;b"))
        self.assertEqual(one(escape(3, text)), content_of("a&#60;&#38;&#62;&#34;&#39;b"))

    def test_every_byte_of_the_first_three_kinds(self):
        names = {34: "&quot;", 38: "&amp;", 39: "&apos;", 60: "&lt;"}
        for kind in (0, 1, 2):
            for byte in range(256):
                expected = [byte] if byte in PLAIN[kind] else names[byte]
                self.assertEqual(one(escape(kind, [byte])), content_of(expected))

    def test_every_byte_of_the_bare_kind(self):
        plain = "abcdefghijklmnopqrstuvwxyzABCDEFGHIJKLMNOPQRSTUVWXYZ0123456789-_."
        for byte in range(256):
            expected = chr(byte) if chr(byte) in plain else "&#%d;" % byte
            self.assertEqual(one(escape(3, [byte])), content_of(expected))

    def test_the_longest_answer(self):
        self.assertEqual(one(escape(3, [255] * 4096)), content_of("&#255;" * 4096))

    def test_it_reads_back(self):
        for kind in (0, 1, 2, 3):
            answer = one(escape(kind, range(256)))
            self.assertEqual(one(back(kind, answer[1:])), [0, 256] + list(range(256)))


class Shortest(AnswerCase):
    def test_the_example(self):
        self.assertEqual(one(shortest(3, [97, 32, 47])), content_of("a&#32;/"))

    def test_no_bytes(self):
        for kind in (0, 1, 2):
            self.assertEqual(one(shortest(kind, "")), [0])
        self.assertEqual(one(shortest(3, "")), [-6])

    def test_every_byte(self):
        names = {38: "&amp;", 60: "&lt;", 62: "&gt;"}
        for kind in (0, 1, 2, 3):
            for byte in range(256):
                expected = [byte] if byte in PLAIN[kind] else names.get(byte, "&#%d;" % byte)
                self.assertEqual(one(shortest(kind, [byte])), content_of(expected))

    def test_several_bytes(self):
        self.assertEqual(one(shortest(1, "\"<'>&")), content_of("&#34;<'>&amp;"))
        self.assertEqual(one(shortest(2, "\"<'>&")), content_of("\"<&#39;>&amp;"))
        self.assertEqual(one(shortest(0, "\"<'>&")), content_of("\"&lt;'>&amp;"))
        self.assertEqual(one(shortest(3, "=\t`")), content_of("&#61;&#9;&#96;"))

    def test_it_reads_back_and_nothing_shorter_does(self):
        bodies = ["amp", "lt", "gt", "quot", "apos"]
        bodies += ["#" + "".join(digits) for many in (1, 2, 3) for digits in itertools.product("0123456789", repeat=many)]
        lengths = {}
        for kind in (0, 1, 2, 3):
            for body in bodies:
                answer = one(back(kind, "&" + body + ";"))
                if answer[0] == 0:
                    key = (kind, answer[2])
                    lengths[key] = min(lengths.get(key, 99), len(body) + 2)
            for byte in range(256):
                answer = one(shortest(kind, [byte]))
                self.assertEqual(one(back(kind, answer[1:])), [0, 1, byte])
                least = 1 if byte in PLAIN[kind] else lengths[(kind, byte)]
                self.assertEqual(answer[0], least, written(answer))


if __name__ == "__main__":
    unittest.main()
