"""The interface: one list of whole numbers in, one out."""

import unittest

from calling import (
    AnswerCase, all_of, back, begin, close, cut, datum, drop, escape, fill, marked, parts, put, quotes, row, run,
    several, shortest, signs, spots, tag, tokens,
)
from markedtext.escapes import answers


class Form(AnswerCase):
    def test_how_many_numbers_stand_ahead(self):
        self.assertEqual(answers([0]), [1, 0])
        self.assertEqual(answers([2]), [1, -4])
        self.assertEqual(answers([1, 0]), [1, 1])
        self.assertEqual(answers([1, 2, 60, 62]), [1, 1])
        self.assertEqual(answers([3, 0, 1, 60]), [5, 4, 38, 108, 116, 59])
        self.assertEqual(answers([4, 3, 0]), [1, -6])
        self.assertEqual(answers([5, 0, 0]), [2, 0, 0])
        self.assertEqual(answers([5, 0, 1, 60]), [3, 1, 1, 0])
        self.assertEqual(answers([6, 0, 1, 2, 97, 98]), [2, 1, 97])
        self.assertEqual(answers([7, 0]), [2, 1, 2])
        self.assertEqual(answers([7, 1, 256]), [1, -1])
        self.assertEqual(answers([8, 0]), [2, 0, 0])
        self.assertEqual(answers([8, 2, 300, 97]), [4, 0, 1, 300, 0])
        self.assertEqual(answers([8, 1, 60]), [3, 1, 7, 1])
        self.assertEqual(answers([9, 0]), [1, 0])
        self.assertEqual(answers([9, 2, 300, 97]), [2, 1, 97])
        self.assertEqual(answers([9, 1, 60]), [1, -10])
        self.assertEqual(answers([10, 0]), [1, 0])
        self.assertEqual(answers([10, 2, 97, 300]), [3, 1, 1, 0])
        self.assertEqual(answers([11, 0]), [1, 0])
        self.assertEqual(answers([11, 2, 300, 97]), [4, 1, 0, 1, 97])
        self.assertEqual(answers([12, 0]), [2, 0, 0])
        self.assertEqual(answers([12, 1, 300]), [5, 0, 1, 0, 1, 300])

    def test_the_examples_in_one_list(self):
        calls = [3, 3] + row([97, 32, 47])
        calls += [4, 3] + row([97, 32, 47])
        calls += [5, 0] + row("a&ltb")
        calls += [5, 0] + row("a&lt b")
        calls += [5, 1] + row("<&#x3C;")
        calls += [6, 1, 5] + row("ab&lt;c")
        calls += [6, 1, 6] + row("ab&lt;c")
        calls += [7] + row([97, 34]) + [7] + row([97, 47, 98]) + [7] + row([34, 32, 39]) + [7, 0]
        calls += [1] + row("<\"") + [9] + row(marked("<p a=", 256, ">", 256, "</p>"))
        calls += [2, 1, 0] + [11, 1, 256] + [9] + row(marked("<!--", 256, "-->"))
        told = [12, 11] + signs("a&#32;&#47;")
        told += [8, 7] + signs("a&#32;/")
        told += [3, 1, 7, 5, 3, 1, 4, 4, 4, 0, 2, 60, 60]
        told += [3, 2] + signs("ab")
        told += [7, 6] + signs("ab&lt;")
        told += [2, 2, 4, 2, 3, 3, 2, 1, 9, 2, 1, 2]
        told += [1, 1, 25, 24] + signs("<p a=\"<&quot;\">&lt;\"</p>")
        told += [1, 0, 1, 1, 1, 0, 1, -10]
        self.assertEqual(answers(calls), told)

    def test_arguments_that_look_like_calls(self):
        told = several(datum([2, 0, 1]), escape(0, [2, 2]), cut(0, 2, [0, 1, 2]), cut(2, 0, [0]), drop(), drop())
        self.assertEqual(told, [[1], [2, 2, 2], [2, 0, 1], [0], [0], [-4]])

    def test_refused_lists_are_passed_over_whole(self):
        told = several(escape(9, [0] * 5000), datum([-1] * 600), shortest(3, []), cut(0, -1, [60]),
                       back(0, [256, 2]), tokens([-1, 0]), drop(), begin())
        self.assertEqual(told, [[-5], [-1], [-6], [-8], [-1], [-1], [-4], [0]])
        told = several(quotes([256, 2]), spots([-1, 0]), put([0] * 5000), parts([256] * 257), fill("<"), quotes("a"))
        self.assertEqual(told, [[-1], [-1], [-2], [-9], [-10], [3, 1]])

    def test_all_calls_on_one_object(self):
        text = marked("<p a=", 257, ">", 256, "</p>")
        told = several(spots(text), put(text), datum("<"), datum("a b"), put(text), parts(text), fill(text), tokens(text),
                       drop(), put(text), parts(text), fill(text), begin(), fill(text), datum([256]), put(text))
        marks_kept = all_of(tag("p", ("a", [257])), run([256]), close("p"))
        empty = row("<p a=\"\"></p>")
        self.assertEqual(told, [
            [0, 2, 257, 4, 256, 0], empty, [1], [2], row("<p a=\"a b\">&lt;</p>"), [2, 5, 5, 11, 4],
            all_of(tag("p", ("a", "a b")), run("<"), close("p")), [0] + marks_kept,
            [1], row("<p a=\"\">&lt;</p>"), [2, 5, 2, 8, 4], all_of(tag("p", ("a", "")), run("<"), close("p")),
            [0], all_of(tag("p", ("a", "")), close("p")), [-1], empty])

    def test_a_hundred_calls(self):
        told = several(*[datum("a"), drop()] * 49, begin(), drop())
        self.assertEqual(told, [[1], [0]] * 49 + [[0], [-4]])

    def test_16000_numbers(self):
        told = several(escape(3, [200] * 4096), back(0, "a" * 4096), tokens("b" * 4096), datum("c" * 512))
        self.assertEqual([len(answer) for answer in told], [4096 * 6 + 1, 4098, 4100, 1])

    def test_answers_of_more_than_a_million_numbers(self):
        told = several(datum("c" * 512), *[put([256] * 128), fill([256] * 128)] * 20, drop())
        self.assertEqual([len(answer) for answer in told], [1] + [65537, 65539] * 20 + [1])


class Apart(AnswerCase):
    def test_the_list_handed_in_stays(self):
        calls = []
        for call in (datum("a<b"), escape(1, "\"&"), shortest(3, " "), back(0, "&lt;"), back(0, "<"), cut(0, 3, "a&lt;"),
                     tokens("<a b='&lt;'>c</a>"), quotes("a b"), spots(marked("<a b=", 256, ">")),
                     put(marked("<a b=", 256, ">", 256)), parts(marked("<a b=", 256, ">", 256)),
                     fill(marked("<a b=", 256, ">", 256, "<b>", 257)), tokens([256]), datum([256]), drop(), begin()):
            calls += call
        copy = list(calls)
        answers(calls)
        self.assertEqual(calls, copy)

    def test_nothing_is_kept_from_one_time_to_the_next(self):
        calls = datum("a") + datum("b")
        self.assertEqual(answers(calls), [1, 1, 1, 2])
        self.assertEqual(answers(calls), [1, 1, 1, 2])
        self.assertEqual(answers([2]), [1, -4])
        self.assertEqual(answers(put([256, 257])), [1, 0])

    def test_a_changed_answer_changes_no_later_one(self):
        calls = escape(0, "<&") + tokens("<calc>a</calc>") + datum("a") + put([256]) + parts([256]) + fill([256])
        first = answers(calls)
        copy = list(first)
        first.clear()
        self.assertEqual(answers(calls), copy)

    def test_answers_are_plain_whole_numbers(self):
        calls = datum("a") + escape(3, " a") + back(0, "&#7;") + cut(0, 1, "ab") + tokens("<a b/>c") + drop()
        calls += quotes("a") + spots([256]) + put([256]) + parts([256]) + fill(marked("<a b=", 256, ">"))
        told = answers(calls)
        self.assertIs(type(told), list)
        self.assertEqual([number for number in told if type(number) is not int], [])


if __name__ == "__main__":
    unittest.main()
