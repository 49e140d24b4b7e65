"""Promise 6: back."""

import itertools
import re
import unittest

from calling import HUGE, AnswerCase, back, one

NAMED = {"amp": 38, "lt": 60, "gt": 62, "quot": 34, "apos": 39}


def byte_of(body):
    """The document's words on bodies, written another way than in the program."""
    if body in NAMED:
        return NAMED[body]
    if re.fullmatch("#[0-9]{1,3}", body) and int(body[1:]) <= 255:
        return int(body[1:])
    if re.fullmatch("#x[0-9a-fA-F]{1,2}", body):
        return int(body[2:], 16)
    return None


class Refusals(AnswerCase):
    def test_kinds(self):
        for kind in (-1, 4, HUGE, -HUGE):
            self.assertEqual(one(back(kind, "a")), [-5])
        for kind in (0, 1, 2, 3):
            self.assertEqual(one(back(kind, "a")), [0, 1, 97])

    def test_bytes_and_length(self):
        for kind in (0, 1, 2, 3):
            for number in (-1, 256, HUGE, -HUGE):
                self.assertEqual(one(back(kind, [97, number])), [-1])
            self.assertEqual(one(back(kind, [0, 255])), [0, 2, 0, 255])
            self.assertEqual(one(back(kind, "a" * 4096)), [0, 4096] + [97] * 4096)
            self.assertEqual(one(back(kind, "a" * 4097)), [-2])

    def test_which_comes_first(self):
        self.assertEqual(one(back(4, [256] * 4097)), [-5])
        self.assertEqual(one(back(0, [97] * 4096 + [256])), [-1])
        self.assertEqual(one(back(0, "<" + "a" * 4096)), [-2])
        self.assertEqual(one(back(0, [60, 256])), [-1])


class Bytes(AnswerCase):
    def test_no_bytes(self):
        for kind in (0, 1, 2):
            self.assertEqual(one(back(kind, "")), [0, 0])
        self.assertEqual(one(back(3, "")), [1, 7, 0])

    def test_which_bytes_may_stand(self):
        forbidden = {0: (60,), 1: (34,), 2: (39,), 3: (9, 10, 13, 32, 34, 39, 60, 61, 62, 96)}
        for kind in (0, 1, 2, 3):
            for byte in range(256):
                expected = [0, 3, 97, byte, 98]
                if byte in forbidden[kind]:
                    expected = [1, 1, 1]
                elif byte == 38:
                    expected = [1, 7, 3]
                self.assertEqual(one(back(kind, [97, byte, 98])), expected)

    def test_the_first_fault_is_told(self):
        self.assertEqual(one(back(0, "ab<&;")), [1, 1, 2])
        self.assertEqual(one(back(0, "ab&;<")), [1, 4, 3])
        self.assertEqual(one(back(3, "&#32; ")), [1, 1, 5])
        self.assertEqual(one(back(0, "a" * 4095 + "<")), [1, 1, 4095])


class References(AnswerCase):
    def test_the_examples(self):
        self.assertEqual(one(back(0, "a&ltb")), [1, 7, 5])
        self.assertEqual(one(back(0, "a&lt b")), [1, 4, 4])
        self.assertEqual(one(back(1, "<&#x3C;")), [0, 2, 60, 60])

    def test_references_in_a_row(self):
        text = "&amp;&lt;x&gt;&quot;&apos;&#65;"
        for kind in (0, 1, 2, 3):
            self.assertEqual(one(back(kind, text)), [0, 7, 38, 60, 120, 62, 34, 39, 65])

    def test_what_a_reference_stands_for_is_not_read_again(self):
        self.assertEqual(one(back(0, "&amp;lt;")), [0, 4, 38, 108, 116, 59])

    def test_decimal_bodies(self):
        for body, byte in (("#0", 0), ("#7", 7), ("#00", 0), ("#007", 7), ("#65", 65), ("#255", 255)):
            self.assertEqual(one(back(0, "&" + body + ";")), [0, 1, byte])
        for body in ("#256", "#999"):
            self.assertEqual(one(back(0, "&" + body + ";")), [1, 4, 5])

    def test_hexadecimal_bodies(self):
        for body, byte in (("#x0", 0), ("#x0a", 10), ("#xA", 10), ("#xfF", 255), ("#xFf", 255), ("#x41", 65)):
            self.assertEqual(one(back(0, "&" + body + ";")), [0, 1, byte])
        for body in ("#X41", "#xg", "#x", "#", "#xG0", "#x1x"):
            self.assertEqual(one(back(0, "&" + body + ";")), [1, 4, len(body) + 1])

    def test_bodies_of_four_and_five_signs(self):
        self.assertEqual(one(back(0, "&quot;")), [0, 1, 34])
        self.assertEqual(one(back(0, "&quott;")), [1, 4, 5])
        self.assertEqual(one(back(0, "&#0007;")), [1, 4, 5])
        self.assertEqual(one(back(0, "&#x041;")), [1, 4, 5])
        self.assertEqual(one(back(0, "&abcd;")), [1, 4, 5])
        self.assertEqual(one(back(0, "&abcde")), [1, 4, 5])

    def test_names_in_other_letters(self):
        for body in ("AMP", "Lt", "am", "ampp", "nbsp", "", "12", "x41", "a#", "##1", "#1#", "#1a", "#aa"):
            self.assertEqual(one(back(2, "&" + body + ";")), [1, 4, len(body) + 1], body)

    def test_signs_that_no_body_takes(self):
        for byte in range(256):
            taken = chr(byte) in "abcdefghijklmnopqrstuvwxyzABCDEFGHIJKLMNOPQRSTUVWXYZ0123456789#"
            for kind in (0, 1, 2, 3):
                expected = [1, 7, 4] if taken else [1, 4, 3]
                if byte == 59:
                    expected = [0, 1, 62]
                self.assertEqual(one(back(kind, [38, 103, 116, byte])), expected)

    def test_the_end_within_a_reference(self):
        for kind in (0, 1, 2, 3):
            for text in ("&", "&a", "&amp", "&#", "&#x", "&#25", "&#255", "&wxyz", "x&lt;&"):
                self.assertEqual(one(back(kind, text)), [1, 7, len(text)])
        self.assertEqual(one(back(0, "a" * 4095 + "&")), [1, 7, 4096])

    def test_all_short_bodies(self):
        for many in range(5):
            for letters in itertools.product("#x0259afAFltg", repeat=many):
                body = "".join(letters)
                byte = byte_of(body)
                expected = [1, 4, many + 1] if byte is None else [0, 1, byte]
                self.assertEqual(one(back(many % 4, "&" + body + ";")), expected, body)


if __name__ == "__main__":
    unittest.main()
