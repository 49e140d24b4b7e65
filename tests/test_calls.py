"""The interface: one list of whole numbers in, one out."""

import unittest

from calling import AnswerCase, back, begin, cut, datum, drop, escape, row, several, shortest, signs, tokens
from markedtext.escapes import answers


class Form(AnswerCase):
    def test_how_many_numbers_stand_ahead(self):
        self.assertEqual(answers([0]), [1, 0])
        self.assertEqual(answers([2]), [1, -4])
        self.assertEqual(answers([1, 0]), [1, 1])
        self.assertEqual(answers([1, 2, 60, 62]), [1, 1])
        self.assertEqual(answers([3, 0, 1, 60]), [5, 4, 38, 108, 116, 59])
        self.assertEqual(answers([4, 3, 0]), [1, -6])
        self.assertEqual(answers([5, 0, 0]), [2, 0, 0])
        self.assertEqual(answers([5, 0, 1, 60]), [3, 1, 1, 0])
        self.assertEqual(answers([6, 0, 1, 2, 97, 98]), [2, 1, 97])
        self.assertEqual(answers([12, 0]), [2, 0, 0])
        self.assertEqual(answers([12, 1, 300]), [5, 0, 1, 0, 1, 300])

    def test_the_examples_in_one_list(self):
        calls = [3, 3] + row([97, 32, 47])
        calls += [4, 3] + row([97, 32, 47])
        calls += [5, 0] + row("a&ltb")
        calls += [5, 0] + row("a&lt b")
        calls += [5, 1] + row("<&#x3C;")
        calls += [6, 1, 5] + row("ab&lt;c")
        calls += [6, 1, 6] + row("ab&lt;c")
        told = [12, 11] + signs("a&#32;&#47;")
        told += [8, 7] + signs("a&#32;/")
        told += [3, 1, 7, 5, 3, 1, 4, 4, 4, 0, 2, 60, 60]
        told += [3, 2] + signs("ab")
        told += [7, 6] + signs("ab&lt;")
        self.assertEqual(answers(calls), told)

    def test_arguments_that_look_like_calls(self):
        told = several(datum([2, 0, 1]), escape(0, [2, 2]), cut(0, 2, [0, 1, 2]), cut(2, 0, [0]), drop(), drop())
        self.assertEqual(told, [[1], [2, 2, 2], [2, 0, 1], [0], [0], [-4]])

    def test_refused_lists_are_passed_over_whole(self):
        told = several(escape(9, [0] * 5000), datum([-1] * 600), shortest(3, []), cut(0, -1, [60]),
                       back(0, [256, 2]), tokens([-1, 0]), drop(), begin())
        self.assertEqual(told, [[-5], [-1], [-6], [-8], [-1], [-1], [-4], [0]])

    def test_a_hundred_calls(self):
        told = several(*[datum("a"), drop()] * 49, begin(), drop())
        self.assertEqual(told, [[1], [0]] * 49 + [[0], [-4]])

    def test_16000_numbers(self):
        told = several(escape(3, [200] * 4096), back(0, "a" * 4096), tokens("b" * 4096), datum("c" * 512))
        self.assertEqual([len(answer) for answer in told], [4096 * 6 + 1, 4098, 4100, 1])


class Apart(AnswerCase):
    def test_the_list_handed_in_stays(self):
        calls = []
        for call in (datum("a<b"), escape(1, "\"&"), shortest(3, " "), back(0, "&lt;"), back(0, "<"), cut(0, 3, "a&lt;"),
                     tokens("<a b='&lt;'>c</a>"), datum([256]), drop(), begin()):
            calls += call
        copy = list(calls)
        answers(calls)
        self.assertEqual(calls, copy)

    def test_nothing_is_kept_from_one_time_to_the_next(self):
        calls = datum("a") + datum("b")
        self.assertEqual(answers(calls), [1, 1, 1, 2])
        self.assertEqual(answers(calls), [1, 1, 1, 2])
        self.assertEqual(answers([2]), [1, -4])

    def test_a_changed_answer_changes_no_later_one(self):
        calls = escape(0, "<&") + tokens("<calc>a</calc>")
        first = answers(calls)
        copy = list(first)
        first.clear()
        self.assertEqual(answers(calls), copy)

    def test_answers_are_plain_whole_numbers(self):
        calls = datum("a") + escape(3, " a") + back(0, "&#7;") + cut(0, 1, "ab") + tokens("<a b/>c") + drop()
        told = answers(calls)
        self.assertIs(type(told), list)
        self.assertEqual([number for number in told if type(number) is not int], [])


if __name__ == "__main__":
    unittest.main()
