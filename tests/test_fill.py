"""Promise 13: fill."""

import unittest

from calling import (
    ALL, AnswerCase, all_of, begin, close, comment, datum, drop, fill, marked, one, raw, run, several, tag, tokens,
    with_data,
)


class Fill(AnswerCase):
    def test_the_example(self):
        self.assertEqual(with_data([""], fill([256]))[0], [0])

    def test_a_text_without_marks(self):
        for text in ("", "a", "<a b=c d='&lt;' e>&#7;</a><!-- & --><calc>&<</calc><verb/>", "<!---->", "a" * 4096):
            self.assertEqual(one(fill(text)), one(tokens(text))[1:])

    def test_data_are_filled_in_as_they_are(self):
        text = marked("x", 256, "<p a=\"y", 256, "\" b='", 256, "' c=d", 256, " e=", 256, " f>", 256, "z</p>")
        content = "<&\"'>"
        self.assertEqual(with_data([content], fill(text))[0], all_of(
            run("x" + content), tag("p", ("a", "y" + content), ("b", content), ("c", "d" + content), ("e", content),
                                    ("f", "")), run(content + "z"), close("p")))

    def test_every_byte(self):
        text = marked(256, "<a b=", 256, "/>")
        self.assertEqual(with_data([ALL], fill(text))[0], all_of(run(ALL), tag("a", ("b", ALL), ended=1)))

    def test_references_of_a_datum_are_not_read(self):
        self.assertEqual(with_data(["&lt;"], fill(marked("&lt;", 256)))[0], all_of(run("<&lt;")))

    def test_runs_that_are_empty_once_filled(self):
        text = marked(256, "<a>", 257, 300, "<b/>", 256, "x", 257, "</a>", 65535)
        self.assertEqual(with_data([""], fill(text))[0],
                         all_of(tag("a"), tag("b", ended=1), run("x"), close("a")))
        self.assertEqual(with_data(["", "y"], fill(text))[0],
                         all_of(tag("a"), run("y"), tag("b", ended=1), run("xy"), close("a")))
        self.assertEqual(one(fill([256, 257])), [0])

    def test_values_that_are_empty_once_filled_stay(self):
        text = marked("<a b=", 256, " c=\"", 256, "\" d='", 257, 300, "' e=f", 256, ">")
        self.assertEqual(with_data([""], fill(text))[0],
                         all_of(tag("a", ("b", ""), ("c", ""), ("d", ""), ("e", "f"))))

    def test_other_empty_tokens_stay(self):
        text = marked("<!---->", 256, "<calc></calc>", 256)
        self.assertEqual(one(fill(text)), all_of(comment(""), tag("calc"), close("calc")))

    def test_raw_text_without_marks(self):
        text = marked(256, "<calc a=", 256, ">1 < 2</calc>", "<verb>&</verb>")
        self.assertEqual(with_data(["x"], fill(text))[0], all_of(
            run("x"), tag("calc", ("a", "x")), raw("1 < 2"), close("calc"), tag("verb"), raw("&"), close("verb")))
        self.assertEqual(with_data(["x"], fill(marked("<calc>", 256, "</calc>")))[0], [-11])

    def test_which_mark_stands_for_which_datum(self):
        data = [[number] for number in range(128, 192)]
        self.assertEqual(with_data(data, fill(range(256, 321)))[0], all_of(run(range(128, 192))))
        self.assertEqual(with_data(data, fill([319, 256, 320, 319, 255]))[0], all_of(run([191, 128, 191, 255])))

    def test_data_put_in_and_dropped_in_between(self):
        text = marked("<p a=", 257, ">", 256, "</p>")
        told = several(fill(text), datum("x"), fill(text), datum("y\""), fill(text), drop(), fill(text), begin(),
                       fill(text))
        bare = all_of(tag("p", ("a", "")), close("p"))
        one_datum = all_of(tag("p", ("a", "")), run("x"), close("p"))
        self.assertEqual(told[0::2], [bare, one_datum, all_of(tag("p", ("a", "y\"")), run("x"), close("p")), one_datum,
                                      bare])

    def test_the_longest_answers(self):
        told = with_data([[97] * 512], fill([256] * 128), fill(marked("<a b='", *[256] * 127, "'>", "c" * 504)))
        self.assertEqual(told[0], all_of(run([97] * 65536)))
        self.assertEqual(told[1], all_of(tag("a", ("b", [97] * 127 * 512)), run("c" * 504)))

    def test_refused_by_the_length_of_the_put(self):
        # 33 times 512 bytes are filled in, far less than the put has, which writes each as &lt;
        self.assertEqual(with_data(["<" * 512], fill([256] * 33))[0], [-12])
        self.assertEqual(with_data(["<" * 512], fill([256] * 32))[0], all_of(run("<" * 512 * 32)))

    def test_tokens_keep_their_marks(self):
        text = marked(256, "<p a=", 256, ">")
        told = with_data(["x"], fill(text), tokens(text))
        self.assertEqual(told[1], [0] + all_of(run([256]), tag("p", ("a", [256]))))
        self.assertEqual(told[0], all_of(run("x"), tag("p", ("a", "x"))))


if __name__ == "__main__":
    unittest.main()
