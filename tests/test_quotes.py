"""Promise 8: quotes."""

import itertools
import unittest

from calling import ALL, BARE, HUGE, AnswerCase, one, quotes, shortest


def lengths_of(content):
    """How many signs a value has in each kind, the quotes counted, from what shortest answers; kind 3 first."""
    lengths = {}
    for kind in (3, 1, 2):
        answer = one(shortest(kind, content))
        if answer != [-6]:
            lengths[kind] = answer[0] + (0 if kind == 3 else 2)
    return lengths


class Refusals(AnswerCase):
    def test_a_number_that_is_no_byte(self):
        for number in (-1, 256, 65535, HUGE, -HUGE):
            self.assertEqual(one(quotes([number])), [-1])
            self.assertEqual(one(quotes([97, number])), [-1])
        self.assertEqual(one(quotes([0, 255])), [3, 2])

    def test_4096_bytes_and_one_more(self):
        self.assertEqual(one(quotes("a" * 4096)), [3, 4096])
        self.assertEqual(one(quotes("a" * 4097)), [-2])
        self.assertEqual(one(quotes("a" * 5000)), [-2])

    def test_no_byte_comes_ahead_of_too_many(self):
        self.assertEqual(one(quotes([97] * 4096 + [256])), [-1])
        self.assertEqual(one(quotes([-1] * 5000)), [-1])


class Quotes(AnswerCase):
    def test_the_examples(self):
        self.assertEqual(one(quotes('a"')), [2, 4])
        self.assertEqual(one(quotes("a/b")), [3, 3])
        self.assertEqual(one(quotes([34, 32, 39])), [1, 9])
        self.assertEqual(one(quotes("")), [1, 2])

    def test_every_byte(self):
        for byte in ALL:
            expected = [1, 3]
            if byte in BARE:
                expected = [3, 1]
            elif byte == 38:
                expected = [3, 5]
            elif byte == 34:
                expected = [2, 3]
            self.assertEqual(one(quotes([byte])), expected, byte)

    def test_two_kinds_with_equally_many(self):
        for content, length in (("\"'", 8), ("'\"", 8), (" ", 3), ("a b", 5), ("''\"\"", 14), ("\"'>", 9)):
            self.assertEqual(lengths_of(content)[1], lengths_of(content)[2])
            self.assertEqual(one(quotes(content)), [1, length])

    def test_a_reference_in_a_bare_value(self):
        self.assertEqual(one(quotes("a&b")), [3, 7])
        self.assertEqual(one(quotes("&&")), [3, 10])
        self.assertEqual(one(quotes("& ")), [1, 8])

    def test_more_of_one_quote_than_of_the_other(self):
        self.assertEqual(one(quotes("\"\"'")), [2, 9])
        self.assertEqual(one(quotes("\"''")), [1, 9])
        self.assertEqual(one(quotes("\"" * 4096)), [2, 4098])
        self.assertEqual(one(quotes("'" * 4096)), [1, 4098])
        self.assertEqual(one(quotes("'\"" * 2048)), [1, 2048 * 6 + 2])

    def test_short_contents(self):
        # A bare value never ties: what it must write as a reference costs three signs or more, quotes cost two.
        for many in range(5):
            for content in itertools.product([97, 34, 39, 38, 60, 62, 9, 32], repeat=many):
                lengths = lengths_of(content)
                kind = min(lengths, key=lengths.get)
                self.assertEqual(one(quotes(content)), [kind, lengths[kind]], content)


if __name__ == "__main__":
    unittest.main()
