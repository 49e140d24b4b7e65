"""Promises 11 and 12: put and parts."""

import unittest

from calling import (
    ALL, AnswerCase, begin, content_of, datum, drop, escape, marked, one, parts, put, several, signs, with_data,
)

# What stands around a mark at each spot that a put takes, and what its written form stands between.
FRAMES = {
    0: ("", "", ""),
    1: ("<a b=\"", "\">", ""),
    2: ("<a b='", "'>", ""),
    3: ("<a b=c", ">", ""),
    4: ("<a b=", ">", "\""),
}
# The kind of place whose escape is written at each spot.
KIND = {0: 0, 1: 1, 2: 2, 3: 3, 4: 1}


class Put(AnswerCase):
    def test_the_examples(self):
        text = marked("<p a=", 256, ">", 256, "</p>")
        self.assertEqual(with_data(["<\""], put(text)), [content_of("<p a=\"<&quot;\">&lt;\"</p>")])
        self.assertEqual(one(put(marked("<!--", 256, "-->"))), [-10])

    def test_a_text_without_marks(self):
        for text in ("", "a", "<a b=c d='&lt;' e>&#7;</a><!-- & --><calc>&<</calc><verb/>", "a" * 4096):
            self.assertEqual(one(put(text)), content_of(text))

    def test_the_same_datum_at_each_spot(self):
        text = marked(256, "<p a=\"", 256, "\" b='", 256, "' c=d", 256, " e=", 256, ">", 256)
        self.assertEqual(with_data(["<&\"'>x/"], put(text))[0], content_of(
            "&lt;&amp;\"'>x/<p a=\"<&amp;&quot;'>x/\" b='<&amp;\"&apos;>x/' "
            "c=d&#60;&#38;&#34;&#39;&#62;x&#47; e=\"<&amp;&quot;'>x/\">&lt;&amp;\"'>x/"))

    def test_every_byte_at_each_spot(self):
        for spot, frame in FRAMES.items():
            written = one(escape(KIND[spot], ALL))[1:]
            expected = marked(frame[0], frame[2], *written, frame[2], frame[1])
            self.assertEqual(with_data([ALL], put(marked(frame[0], 256, frame[1])))[0], content_of(expected))

    def test_an_empty_datum_and_no_datum(self):
        for spot, frame in FRAMES.items():
            expected = content_of(frame[0] + frame[2] * 2 + frame[1])
            for mark in (256, 257, 320, 65535):
                self.assertEqual(with_data([""], put(marked(frame[0], mark, frame[1])))[0], expected)
            self.assertEqual(one(put(marked(frame[0], 256, frame[1]))), expected)

    def test_which_mark_stands_for_which_datum(self):
        data = [[number] for number in range(128, 192)]
        self.assertEqual(with_data(data, put(range(256, 321)))[0], [64] + list(range(128, 192)))
        self.assertEqual(with_data(data, put([319, 256, 320, 319, 255]))[0], [4, 191, 128, 191, 255])
        self.assertEqual(with_data(["a", "b", "c"], put([258, 257, 256, 259]))[0], content_of("cba"))

    def test_data_put_in_and_dropped_in_between(self):
        text = marked("<p a=", 257, ">", 256, "</p>")
        told = several(put(text), datum("x"), put(text), datum("y\""), put(text), drop(), put(text), datum("z"),
                       put(text), begin(), put(text), datum("&"), put(text))
        self.assertEqual(told[0::2], [content_of(written) for written in (
            "<p a=\"\"></p>", "<p a=\"\">x</p>", "<p a=\"y&quot;\">x</p>", "<p a=\"\">x</p>", "<p a=\"z\">x</p>",
            "<p a=\"\"></p>", "<p a=\"\">&amp;</p>")])

    def test_a_datum_that_looks_like_marked_text(self):
        self.assertEqual(with_data(["</p>&lt;<!--"], put(marked("<p>", 256)))[0], content_of("<p>&lt;/p>&amp;lt;&lt;!--"))

    def test_what_the_text_itself_has_stays_as_written(self):
        text = marked("&#60;&lt;<a  b = ", 256)
        self.assertEqual(one(put(text)), [-10])
        text = marked("&#60;&#x3c;&lt;\n<a  b=&#65; />", 256, "<calc>&</calc>")
        self.assertEqual(with_data(["!"], put(text))[0], content_of("&#60;&#x3c;&lt;\n<a  b=&#65; />!<calc>&</calc>"))

    def test_neighbouring_marks(self):
        self.assertEqual(with_data(["&l", "t;"], put([256, 257]))[0], content_of("&amp;lt;"))
        self.assertEqual(with_data(["a", " "], put(marked("<a b=c", 256, 257, 256, ">")))[0],
                         content_of("<a b=ca&#32;a>"))

    def test_65536_bytes(self):
        told = with_data([[97] * 512, [60] * 512], put([256] * 128), put([257] * 32), put([256] * 124 + [257]))
        self.assertEqual(told[0], [65536] + [97] * 65536)
        self.assertEqual(told[1], [65536] + signs("&lt;") * 16384)
        self.assertEqual(told[2], [65536] + [97] * 124 * 512 + signs("&lt;") * 512)

    def test_256_marks(self):
        self.assertEqual(with_data([[7] * 256], put([256] * 256))[0], [65536] + [7] * 65536)


class Parts(AnswerCase):
    def test_no_marks(self):
        self.assertEqual(one(parts("")), [0])
        self.assertEqual(one(parts("<a b=c>&lt;</a>")), [0])

    def test_the_text_of_the_example(self):
        # <p a="<&quot;">&lt;"</p>
        self.assertEqual(with_data(["<\""], parts(marked("<p a=", 256, ">", 256, "</p>")))[0], [2, 5, 9, 15, 5])

    def test_each_spot(self):
        for spot, frame in FRAMES.items():
            length = one(escape(KIND[spot], ALL))[0] + 2 * len(frame[2])
            text = marked(frame[0], 256, frame[1])
            self.assertEqual(with_data([ALL], parts(text))[0], [1, len(frame[0]), length])

    def test_an_empty_datum_and_no_datum(self):
        for spot, frame in FRAMES.items():
            expected = [1, len(frame[0]), 2 if spot == 4 else 0]
            self.assertEqual(with_data([""], parts(marked(frame[0], 256, frame[1])))[0], expected)
            self.assertEqual(with_data([""], parts(marked(frame[0], 257, frame[1])))[0], expected)
            self.assertEqual(one(parts(marked(frame[0], 65535, frame[1]))), expected)

    def test_neighbouring_marks(self):
        self.assertEqual(with_data(["ab", "<"], parts([256, 257, 258, 256]))[0], [4, 0, 2, 2, 4, 6, 0, 6, 2])
        self.assertEqual(with_data(["a", " "], parts(marked("<a b=c", 256, 257, ">", 256)))[0],
                         [3, 6, 1, 7, 5, 13, 1])

    def test_references_of_the_text_are_counted_as_written(self):
        self.assertEqual(with_data(["x"], parts(marked("&amp;", 256, "&#7;", 256)))[0], [2, 5, 1, 10, 1])

    def test_the_put_holds_the_forms_there(self):
        data = ["<&\"'", "", " =/>", "plain"]
        text = marked(256, "&lt;", 258, "<p a=\"", 256, 259, "\" b='", 257, 256, "' c=d", 258, 257, " e=", 256,
                      " f=", 300, ">", 259, 259)
        kinds = [0, 0, 1, 1, 2, 2, 3, 3, 1, 1, 0, 0]
        marks = [mark for mark in text if mark > 255]
        written, told = with_data(data, put(text), parts(text))
        self.assertEqual(told[0], len(marks))
        for number, mark in enumerate(marks):
            begin_place, length = told[1 + 2 * number:3 + 2 * number]
            content = data[mark - 256] if mark < 260 else ""
            form = one(escape(kinds[number], content))[1:]
            if number in (8, 9):
                form = [34] + form + [34]
            self.assertEqual(written[1 + begin_place:1 + begin_place + length], form, number)

    def test_256_marks_in_65536_bytes(self):
        expected = [256]
        for number in range(256):
            expected += [256 * number, 256]
        self.assertEqual(with_data([[7] * 256], parts([256] * 256))[0], expected)

    def test_data_put_in_and_dropped_in_between(self):
        text = marked(256, "<p a=", 257, ">")
        told = several(parts(text), datum("&"), parts(text), datum("bc"), parts(text), drop(), parts(text), begin(),
                       parts(text))
        self.assertEqual(told[0::2], [[2, 0, 0, 5, 2], [2, 0, 5, 10, 2], [2, 0, 5, 10, 4], [2, 0, 5, 10, 2],
                                      [2, 0, 0, 5, 2]])


if __name__ == "__main__":
    unittest.main()
