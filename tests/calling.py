"""Ways for the tests to write calls down and to take their answers apart."""

import unittest

from markedtext.escapes import answers

HUGE = 10 ** 18


class AnswerCase(unittest.TestCase):
    def setUp(self):
        self.addTypeEqualityFunc(list, self.assert_same_list)

    def assert_same_list(self, got, wanted, msg=None):
        """unittest's own way to show how two lists differ takes hours where they have thousands of numbers."""
        if got == wanted:
            return
        place = 0
        while place < min(len(got), len(wanted)) and got[place] == wanted[place]:
            place += 1
        start = max(0, place - 10)
        end = place + 10
        self.fail(f"{msg}: from {place} on (shown from {start}): {got[start:end]} is not {wanted[start:end]}")


def signs(written):
    """A list of signs as it is, or the signs of printed characters."""
    if isinstance(written, str):
        return [ord(letter) for letter in written]
    return list(written)


def row(written):
    listed = signs(written)
    return [len(listed)] + listed


def begin():
    return [0]


def datum(content):
    return [1] + row(content)


def drop():
    return [2]


def escape(kind, content):
    return [3, kind] + row(content)


def shortest(kind, content):
    return [4, kind] + row(content)


def back(kind, text):
    return [5, kind] + row(text)


def cut(kind, n, text):
    return [6, kind, n] + row(text)


def quotes(content):
    return [7] + row(content)


def spots(text):
    return [8] + row(text)


def put(text):
    return [9] + row(text)


def parts(text):
    return [10] + row(text)


def fill(text):
    return [11] + row(text)


def tokens(text):
    return [12] + row(text)


def several(*calls):
    """The answers of several calls on one object, one list each."""
    told = answers([number for call in calls for number in call])
    taken = []
    place = 0
    while place < len(told):
        end = place + 1 + told[place]
        if end > len(told):
            raise ValueError("an answer is shorter than it says")
        taken.append(told[place + 1:end])
        place = end
    return taken


def one(call):
    taken = several(call)
    if len(taken) != 1:
        raise ValueError("one call has not one answer")
    return taken[0]


def with_data(data, *calls):
    """The answers of several calls on one object that holds these data."""
    return several(*[datum(content) for content in data], *calls)[len(data):]


def content_of(written):
    """The answer that tells how many signs there are, and these."""
    return row(written)


def marked(*pieces):
    """A text of printed characters and marks."""
    listed = []
    for piece in pieces:
        listed += [piece] if isinstance(piece, int) else signs(piece)
    return listed


def run(content):
    return [0] + row(content)


def tag(name, *attributes, ended=0):
    told = [1, ended] + row(name) + [len(attributes)]
    for attribute in attributes:
        told += row(attribute[0]) + row(attribute[1])
    return told


def close(name):
    return [2] + row(name)


def comment(content):
    return [3] + row(content)


def raw(content):
    return [4] + row(content)


def all_of(*told):
    """How many tokens there are, and each of them."""
    return [len(told)] + [number for token in told for number in token]


def fine(*told):
    return [0] + all_of(*told)


LETTERS = signs("abcdefghijklmnopqrstuvwxyz")
CAPITALS = signs("ABCDEFGHIJKLMNOPQRSTUVWXYZ")
DIGITS = signs("0123456789")
NAME_SIGNS = LETTERS + DIGITS + signs("-")
BLANKS = [9, 10, 13, 32]
ALL = list(range(256))
BARE = [byte for byte in ALL if byte not in BLANKS + signs("\"&'<=>`")]
BODY = LETTERS + CAPITALS + DIGITS + signs("#")

# A text that brings a new reader to each mode, the bytes that are taken there, and the kind of fault of the others.
MODES = {
    0: ("", ALL, 1),
    1: ("&lt", BODY + [59], 4),
    2: ("<a b=\"&lt", BODY + [59], 4),
    3: ("<a b='&lt", BODY + [59], 4),
    4: ("<a b=&lt", BODY + [59], 4),
    5: ("<", LETTERS + signs("/!"), 1),
    6: ("<a", NAME_SIGNS + BLANKS + signs("/>"), 1),
    7: ("</", LETTERS, 1),
    8: ("</a", NAME_SIGNS + signs(">"), 1),
    9: ("<a ", LETTERS + BLANKS + signs("/>"), 1),
    10: ("<a b", NAME_SIGNS + BLANKS + signs("/>="), 1),
    11: ("<a b=", BARE + signs("\"'&"), 1),
    12: ("<a b=\"", ALL, 1),
    13: ("<a b='", ALL, 1),
    14: ("<a b=c", BARE + BLANKS + signs("&>"), 1),
    15: ("<a b=\"\"", BLANKS + signs("/>"), 1),
    16: ("<a/", signs(">"), 1),
    17: ("<!", signs("-"), 1),
    18: ("<!-", signs("-"), 1),
    19: ("<!--", ALL, 1),
    20: ("<!---", ALL, 1),
    21: ("<!----", ALL, 1),
    22: ("<calc>", ALL, 1),
    23: ("<calc><", ALL, 1),
    24: ("<calc></ca", signs("l"), 6),
}
