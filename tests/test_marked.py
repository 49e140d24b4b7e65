"""Promise 9, what put, parts and fill refuse besides, and that only begin, datum and drop change the object."""

import unittest

from calling import (
    HUGE, MODES, AnswerCase, back, begin, cut, datum, drop, escape, fill, marked, one, parts, put, quotes, several,
    shortest, signs, spots, tokens,
)

FIVE = (spots, put, parts, fill, tokens)
THREE = (put, parts, fill)

# A mark in raw text, which a put has no form for.
IN_CALC = marked("<calc>", 256, "</calc>")


class Refusals(AnswerCase):
    def test_a_number_that_is_no_sign(self):
        for call in FIVE:
            for number in (-1, 65536, HUGE, -HUGE):
                self.assertEqual(one(call([number])), [-1])
                self.assertEqual(one(call([97, number, 98])), [-1])
            for number in (0, 255, 256, 65535):
                self.assertGreaterEqual(one(call([number]))[0], 0)

    def test_4096_signs_and_one_more(self):
        for call in FIVE:
            self.assertGreaterEqual(one(call("a" * 4096))[0], 0)
            self.assertEqual(one(call("a" * 4097)), [-2])
            self.assertEqual(one(call("a" * 5000)), [-2])

    def test_256_marks_and_one_more(self):
        for call in FIVE:
            self.assertGreaterEqual(one(call([300] * 256))[0], 0)
            self.assertGreaterEqual(one(call([255] * 257))[0], 0)
            self.assertEqual(one(call([300] * 257)), [-9])
            self.assertEqual(one(call(list(range(256, 513)))), [-9])
            self.assertEqual(one(call([300] * 256 + [97] * 3839 + [65535])), [-9])

    def test_which_comes_first(self):
        for call in FIVE:
            self.assertEqual(one(call([300] * 4096 + [65536])), [-1])
            self.assertEqual(one(call([300] * 4096 + [-1])), [-1])
            self.assertEqual(one(call([300] * 257 + [-1])), [-1])
            self.assertEqual(one(call([300] * 4097)), [-2])
            self.assertEqual(one(call(signs("<<") + [300] * 257)), [-9])
            self.assertEqual(one(call("<" * 4097)), [-2])
            self.assertEqual(one(call([60, 60, -1])), [-1])


class RefusalsOfPut(AnswerCase):
    def test_a_text_that_is_not_read_fine(self):
        texts = ["<", "&", "<a", "<a b='", "<a b b>", "<calc>", "<calc></a>", "<" + "a" * 33 + ">", "&#256;", "<!-->"]
        texts += [marked("<!--", 256, "-->"), marked("<", 256, ">"), marked("<verb>", 256, "</verb>")]
        texts += [marked("<a b=", 256, 256, ">"), marked("<a b=", 256, "c>"), marked(256, "</")]
        for call in THREE:
            for text in texts:
                self.assertEqual(one(call(text)), [-10], text)

    def test_every_mode_that_takes_no_mark(self):
        for call in THREE:
            for mode, told in MODES.items():
                if mode not in (0, 11, 12, 13, 14, 22):
                    self.assertEqual(one(call(marked(told[0], 256))), [-10], mode)

    def test_a_mark_in_raw_text(self):
        for call in THREE:
            for data in ([], [datum("")], [datum("a")]):
                self.assertEqual(several(*data, call(IN_CALC))[-1], [-11])
                self.assertEqual(several(*data, call(marked("<p a=", 256, ">") + IN_CALC))[-1], [-11])
                self.assertEqual(several(*data, call(IN_CALC + marked("<p a=", 256, ">")))[-1], [-11])
            self.assertGreaterEqual(one(call("<calc>a</calc>"))[0], 0)
            self.assertGreaterEqual(one(call(marked("<calc a=", 256, "></calc>", 256)))[0], 0)

    def test_a_put_of_65536_bytes_and_one_more(self):
        for call in THREE:
            for content, many in ((97, 128), (60, 32)):
                data = datum([content] * 512)
                self.assertGreaterEqual(several(data, call([256] * many))[1][0], 1)
                self.assertEqual(several(data, call([256] * many + [97]))[1], [-12])
                self.assertEqual(several(data, call([97] + [256] * many))[1], [-12])
                self.assertGreaterEqual(several(data, call([256] * (many - 1) + [97] * 512))[1][0], 1)
                self.assertEqual(several(data, call([256] * (many + 1)))[1], [-12])

    def test_the_marks_themselves_count_for_nothing(self):
        for call in THREE:
            told = several(datum([97] * 512), call([256] * 128 + [300] * 128), call([256] * 128 + [300] * 127 + [97]))
            self.assertGreaterEqual(told[1][0], 1)
            self.assertEqual(told[2], [-12])

    def test_quotes_written_behind_equals_count(self):
        # The six bytes of the tag, two quotes, 127 data, and bytes that fill up.
        for call in THREE:
            text = marked("<p a=", 257, ">", *[256] * 127)
            room = 65536 - 6 - 2 - 127 * 512
            self.assertGreaterEqual(several(datum([97] * 512), datum(""), call(text + [97] * room))[2][0], 1)
            self.assertEqual(several(datum([97] * 512), datum(""), call(text + [97] * (room + 1)))[2], [-12])

    def test_references_as_written_in_the_text_count(self):
        for call in THREE:
            text = [256] * 127 + signs("&lt;" * 128)
            self.assertGreaterEqual(several(datum([97] * 512), call(text))[1][0], 1)
            self.assertEqual(several(datum([97] * 512), call(text + [98]))[1], [-12])

    def test_how_a_datum_is_written_at_each_spot_counts(self):
        many = {0: "&lt;", 1: "<", 2: "<", 3: "&#60;"}
        begins = {0: "", 1: "<a b=\"", 2: "<a b='", 3: "<a b=c"}
        ends = {0: "", 1: "\">", 2: "'>", 3: ">"}
        for spot in many:
            frame = len(begins[spot]) + len(ends[spot])
            marks = (65536 - frame) // (len(many[spot]) * 512)
            room = 65536 - frame - marks * len(many[spot]) * 512
            for call in THREE:
                for more, refused in ((0, False), (1, True)):
                    text = marked(begins[spot], *[256] * marks, "x" * (room + more), ends[spot])
                    self.assertEqual(several(datum("<" * 512), call(text))[1] == [-12], refused, spot)

    def test_which_comes_first(self):
        too_long = [256] * 129
        for call in THREE:
            for text, refusal in (
                    (IN_CALC + [60], -10), (IN_CALC + too_long, -11), (too_long + IN_CALC, -11), (too_long + [60], -10),
                    (too_long, -12), (too_long + [256] * 128 + [60], -9), (too_long + [97] * 3968, -2),
                    (too_long + [-1], -1)):
                self.assertEqual(several(datum([97] * 512), call(text))[1], [refusal])


class TheObject(AnswerCase):
    def setUp(self):
        super().setUp()
        self.look = put([256, 10, 257, 10, 258])
        self.seen = [7] + signs("one\ntw\n")

    def held(self, *calls):
        """What put tells of the data one and tw behind these calls."""
        return several(datum("one"), datum("tw"), *calls, self.look)[-1]

    def test_what_put_tells_of_the_data(self):
        self.assertEqual(self.held(), self.seen)
        self.assertEqual(self.held(datum("<")), [11] + self.seen[1:] + signs("&lt;"))
        self.assertEqual(self.held(drop()), [5] + signs("one\n\n"))
        self.assertEqual(self.held(begin()), [2, 10, 10])

    def test_refused_calls_leave_it_as_it_was(self):
        calls = [datum([256]), datum([-1]), datum([0] * 513), escape(4, "a"), escape(0, [256]), shortest(3, ""),
                 back(0, [256]), cut(0, -1, "a"), cut(0, 1, "<"), quotes([256]), quotes([0] * 4097)]
        for call in FIVE:
            calls += [call([-1]), call([0] * 4097), call([256] * 257)]
        for call in THREE:
            calls += [call("<"), call(IN_CALC)]
        for call in calls:
            self.assertLess(several(datum("one"), datum("tw"), call)[-1][0], 0)
            self.assertEqual(self.held(call), self.seen)

    def test_a_refused_drop_and_a_refused_65th_datum(self):
        self.assertEqual(several(drop(), datum("x"), put([256]))[2], [1, 120])
        data = [datum([number]) for number in range(64, 128)]
        told = several(*data, datum("y"), put(range(256, 321)), put([319, 320]))
        self.assertEqual(told[64:], [[-3], [64] + list(range(64, 128)), [1, 127]])

    def test_a_put_that_is_too_long(self):
        long = datum([97] * 512)
        for call in THREE:
            told = several(datum("b"), long, call([257] * 129), put([256]), drop(), drop(), drop())
            self.assertEqual(told, [[1], [2], [-12], [1, 98], [1], [0], [-4]])

    def test_no_other_call_changes_it(self):
        text = marked("<p a=", 256, ">", 257, "</p>")
        for call in (escape(0, "<"), shortest(3, " "), back(0, "&lt;"), back(0, "<"), cut(1, 1, "ab"), quotes("a b"),
                     spots(text), spots("<"), put(text), parts(text), fill(text), tokens(text), tokens("<")):
            self.assertEqual(self.held(call), self.seen)
            self.assertEqual(self.held(call, call), self.seen)

    def test_the_same_answer_time_and_again(self):
        text = marked("<p a=", 256, " b='", 256, "'>", 257, "</p>")
        for call in FIVE:
            told = several(datum("<'\">"), datum("&"), call(text), call(text), call(text))
            self.assertEqual(told[2], told[3])
            self.assertEqual(told[2], told[4])


if __name__ == "__main__":
    unittest.main()
