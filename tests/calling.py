"""Ways for the tests to write calls down and to take their answers apart."""

import unittest

from markedtext.escapes import answers

HUGE = 10 ** 18


class AnswerCase(unittest.TestCase):
    def setUp(self):
        self.addTypeEqualityFunc(list, self.assert_same_list)

    def assert_same_list(self, got, wanted, msg=None):
        """unittest's own way to show how two lists differ takes hours where they have thousands of numbers."""
        if got == wanted:
            return
        place = 0
        while place < min(len(got), len(wanted)) and got[place] == wanted[place]:
            place += 1
        start = max(0, place - 10)
        end = place + 10
        self.fail(f"{msg}: from {place} on (shown from {start}): {got[start:end]} is not {wanted[start:end]}")


def signs(written):
    """A list of signs as it is, or the signs of printed characters."""
    if isinstance(written, str):
        return [ord(letter) for letter in written]
    return list(written)


def row(written):
    listed = signs(written)
    return [len(listed)] + listed


def begin():
    return [0]


def datum(content):
    return [1] + row(content)


def drop():
    return [2]


def escape(kind, content):
    return [3, kind] + row(content)


def shortest(kind, content):
    return [4, kind] + row(content)


def back(kind, text):
    return [5, kind] + row(text)


def cut(kind, n, text):
    return [6, kind, n] + row(text)


def tokens(text):
    return [12] + row(text)


def several(*calls):
    """The answers of several calls on one object, one list each."""
    told = answers([number for call in calls for number in call])
    taken = []
    place = 0
    while place < len(told):
        end = place + 1 + told[place]
        if end > len(told):
            raise ValueError("an answer is shorter than it says")
        taken.append(told[place + 1:end])
        place = end
    return taken


def one(call):
    taken = several(call)
    if len(taken) != 1:
        raise ValueError("one call has not one answer")
    return taken[0]


def content_of(written):
    """The answer that tells how many signs there are, and these."""
    return row(written)
