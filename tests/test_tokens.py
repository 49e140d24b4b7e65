"""Promise 14: tokens, with what promise 9 says of it and what the document says of the reader."""

import unittest

from calling import (
    ALL, HUGE, MODES, AnswerCase, back, close, comment, datum, drop, fine, marked, one, raw, run, several, signs, tag,
    tokens,
)


class Refusals(AnswerCase):
    def test_a_number_that_is_no_sign(self):
        for number in (-1, 65536, HUGE, -HUGE):
            self.assertEqual(one(tokens([97, number])), [-1])
        self.assertEqual(one(tokens([0, 255, 256, 65535])), fine(run([0, 255, 256, 65535])))

    def test_4096_signs_and_one_more(self):
        self.assertEqual(one(tokens("a" * 4096)), fine(run("a" * 4096)))
        self.assertEqual(one(tokens("a" * 4097)), [-2])

    def test_256_marks_and_one_more(self):
        self.assertEqual(one(tokens([300] * 256)), fine(run([300] * 256)))
        self.assertEqual(one(tokens([300] * 257)), [-9])
        self.assertEqual(one(tokens([255] * 257)), fine(run([255] * 257)))

    def test_which_comes_first(self):
        self.assertEqual(one(tokens([300] * 4096 + [65536])), [-1])
        self.assertEqual(one(tokens([300] * 4097)), [-2])
        self.assertEqual(one(tokens(signs("<<") + [300] * 257)), [-9])

    def test_data_play_no_part(self):
        text = marked("a", 256, "b")
        self.assertEqual(several(datum("x"), tokens(text), drop(), tokens(text)),
                         [[1], fine(run(text)), [0], fine(run(text))])


class Tokens(AnswerCase):
    def test_no_signs(self):
        self.assertEqual(one(tokens("")), [0, 0])

    def test_one_of_each(self):
        text = "x<a b=c>&lt;</a><!-- d --><verb>e</verb>"
        self.assertEqual(one(tokens(text)), fine(
            run("x"), tag("a", ("b", "c")), run("<"), close("a"), comment(" d "), tag("verb"), raw("e"), close("verb")))

    def test_a_run_of_references(self):
        self.assertEqual(one(tokens("&amp;&#0;>\"'")), fine(run([38, 0] + signs(">\"'"))))

    def test_tags_need_not_match(self):
        self.assertEqual(one(tokens("</b><a><a/>")), fine(close("b"), tag("a"), tag("a", ended=1)))

    def test_gaps_and_empty_values(self):
        self.assertEqual(one(tokens("<a >")), fine(tag("a")))
        self.assertEqual(one(tokens("<a\t\n\r b c/>")), fine(tag("a", ("b", ""), ("c", ""), ended=1)))
        self.assertEqual(one(tokens("<a b>")), fine(tag("a", ("b", ""))))
        self.assertEqual(one(tokens("<a b=\"\" c='' />")), fine(tag("a", ("b", ""), ("c", ""), ended=1)))

    def test_values(self):
        self.assertEqual(one(tokens("<a b=\"<'>&quot;\" c='<\">&apos;'>")),
                         fine(tag("a", ("b", "<'>\""), ("c", "<\">'"))))
        self.assertEqual(one(tokens("<a b=&#32;c/ d=e&lt;>")), fine(tag("a", ("b", " c/"), ("d", "e<"))))
        self.assertEqual(one(tokens("<a b=/>")), fine(tag("a", ("b", "/"))))
        self.assertEqual(one(tokens("<a b=\"\"/>")), fine(tag("a", ("b", ""), ended=1)))

    def test_names(self):
        longest = "a" + "-0" * 15 + "z"
        self.assertEqual(one(tokens("<" + longest + ">")), fine(tag(longest)))
        self.assertEqual(one(tokens("</" + longest + ">")), fine(close(longest)))
        self.assertEqual(one(tokens("<a " + longest + ">")), fine(tag("a", (longest, ""))))
        self.assertEqual(one(tokens("<" + longest + "b>")), [1, 2, 33])
        self.assertEqual(one(tokens("</" + longest + "b>")), [1, 2, 34])
        self.assertEqual(one(tokens("<a " + longest + "b>")), [1, 2, 35])

    def test_an_attribute_named_twice(self):
        for end in (" ", "/", ">", "="):
            self.assertEqual(one(tokens("<a b c b" + end)), [1, 3, 8])
            self.assertEqual(one(tokens("<a b=b b" + end)), [1, 3, 8])
        self.assertEqual(one(tokens("<a b><a b>")), fine(tag("a", ("b", "")), tag("a", ("b", ""))))
        self.assertEqual(one(tokens("<a b bb>")), fine(tag("a", ("b", ""), ("bb", ""))))
        self.assertEqual(one(tokens("<a b b!")), [1, 1, 6])
        self.assertEqual(one(tokens("<a b/><a b/>")), fine(tag("a", ("b", ""), ended=1), tag("a", ("b", ""), ended=1)))

    def test_comments(self):
        for content in ("", "-", "--", "a", "->", ">", "a-b--c", "- -", "--!>", "<a>&", "--x"):
            self.assertEqual(one(tokens("<!--" + content + "-->")), fine(comment(content)))
        self.assertEqual(one(tokens("<!-->")), [1, 7, 5])
        self.assertEqual(one(tokens("<!--->")), [1, 7, 6])
        self.assertEqual(one(tokens("<!-->-->")), fine(comment(">")))
        self.assertEqual(one(tokens("<!--a-->-->")), fine(comment("a"), run("-->")))

    def test_raw_text(self):
        for name in ("calc", "verb"):
            begin = "<" + name + ">"
            end = "</" + name + ">"
            self.assertEqual(one(tokens(begin + end)), fine(tag(name), close(name)))
            for content in ("a", "&lt;", "<", "<<", "<a>", "< /", "<!--", "a<<b", "&", "/", "<x<"):
                self.assertEqual(one(tokens(begin + content + end)), fine(tag(name), raw(content), close(name)))
            self.assertEqual(one(tokens(begin + "x" + end + "&lt;")),
                             fine(tag(name), raw("x"), close(name), run("<")))
            self.assertEqual(one(tokens("<" + name + "/>&lt;")), fine(tag(name, ended=1), run("<")))
            self.assertEqual(one(tokens("<" + name + " b=c>&" + end)), fine(tag(name, ("b", "c")), raw("&"), close(name)))
            self.assertEqual(one(tokens(begin + "</a")), [1, 6, 8])
            self.assertEqual(one(tokens(begin + "</" + name + " >")), [1, 6, 12])
            self.assertEqual(one(tokens(begin + "</" + name + "s>")), [1, 6, 12])
            self.assertEqual(one(tokens(begin + "</>")), [1, 6, 8])
        self.assertEqual(one(tokens("<verb></calc>")), [1, 6, 8])

    def test_only_calc_and_verb_are_raw(self):
        for name in ("cal", "calcs", "ver", "verbs", "a", "raw"):
            self.assertEqual(one(tokens("<" + name + ">&lt;")), fine(tag(name), run("<")))
        self.assertEqual(one(tokens("</calc>&lt;")), fine(close("calc"), run("<")))


class Marks(AnswerCase):
    def test_marks_are_kept(self):
        text = marked("<p a=", 256, ">", 256, "</p>")
        self.assertEqual(one(tokens(text)), fine(tag("p", ("a", [256])), run([256]), close("p")))
        text = marked("<p a=\"x", 300, "\" b='", 65535, "' c=d", 257, 258, "e>")
        self.assertEqual(one(tokens(text)), fine(
            tag("p", ("a", marked("x", 300)), ("b", [65535]), ("c", marked("d", 257, 258, "e")))))
        text = marked("<calc>1", 256, "<<2</calc>")
        self.assertEqual(one(tokens(text)), fine(tag("calc"), raw(marked("1", 256, "<<2")), close("calc")))

    def test_a_mark_behind_equals_is_a_value_alone(self):
        self.assertEqual(one(tokens(marked("<a b=", 256, "c"))), [1, 1, 6])
        self.assertEqual(one(tokens(marked("<a b=", 256, 256))), [1, 5, 6])
        self.assertEqual(one(tokens(marked("<a b=", 256, " c/>"))), fine(tag("a", ("b", [256]), ("c", ""), ended=1)))

    def test_marks_in_every_mode(self):
        for mode, told in MODES.items():
            answer = one(tokens(marked(told[0], 256)))
            place = len(told[0])
            if mode == 0:
                self.assertEqual(answer, fine(run([256])))
            elif mode in (11, 12, 13, 14, 22):
                self.assertEqual(answer, [1, 7, place + 1])
            else:
                self.assertEqual(answer, [1, 5, place])

    def test_a_mark_is_told_whatever_else_would_be(self):
        self.assertEqual(one(tokens(marked("&quot", 256))), [1, 5, 5])
        self.assertEqual(one(tokens(marked("<" + "a" * 32, 256))), [1, 5, 33])
        self.assertEqual(one(tokens(marked("<a b b", 256))), [1, 5, 6])

    def test_no_marks_in_verb(self):
        self.assertEqual(one(tokens(marked("<verb>", 256))), [1, 5, 6])
        self.assertEqual(one(tokens(marked("<verb>a<", 256))), [1, 5, 8])
        self.assertEqual(one(tokens(marked("<verb></", 256))), [1, 5, 8])
        self.assertEqual(one(tokens(marked("<verb></verb", 256))), [1, 5, 12])


class Faults(AnswerCase):
    def test_every_byte_in_every_mode(self):
        for mode, told in MODES.items():
            begin, taken, kind = told
            place = len(begin)
            for byte in ALL:
                answer = one(tokens(signs(begin) + [byte]))
                if byte in taken and answer[0] != 0:
                    self.assertEqual(answer, [1, 7, place + 1], (mode, byte))
                elif byte not in taken:
                    self.assertEqual(answer, [1, kind, place], (mode, byte))

    def test_which_bytes_end_a_text_fine(self):
        ends = {0: [byte for byte in ALL if byte not in signs("<&")], 1: [59], 6: [62], 8: [62], 9: [62], 10: [62],
                14: [62], 15: [62], 16: [62], 21: [62]}
        for mode, told in MODES.items():
            ending = [byte for byte in ALL if one(tokens(signs(told[0]) + [byte]))[0] == 0]
            self.assertEqual(ending, ends.get(mode, []), mode)

    def test_the_end_in_every_mode(self):
        for mode, told in MODES.items():
            if mode != 0:
                self.assertEqual(one(tokens(told[0])), [1, 7, len(told[0])], mode)

    def test_references_fault_as_in_back(self):
        for text in ("&", "&;", "&lt", "&l t;", "&quott;", "&#256;", "&#0000;", "&#X1;", "&#x;", "&#x1;", "&#255;"):
            answer = one(back(0, text))
            expected = fine(run(answer[2:])) if answer[0] == 0 else answer
            self.assertEqual(one(tokens(text)), expected)
            for begin, kind in (("<a b=\"", 1), ("<a b='", 2), ("<a b=", 3)):
                answer = one(back(kind, text))
                if answer[0] == 1:
                    self.assertEqual(one(tokens(begin + text)), answer[:2] + [answer[2] + len(begin)])

    def test_a_long_text(self):
        text = "<a b=c/>" * 512
        self.assertEqual(one(tokens(text)), fine(*[tag("a", ("b", "c/"))] * 512))
        self.assertEqual(one(tokens(text[:-1] + "<")), [1, 1, 4095])
        self.assertEqual(one(tokens(text[:-1])), [1, 7, 4095])


if __name__ == "__main__":
    unittest.main()
