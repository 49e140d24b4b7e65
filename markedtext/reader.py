"""The reader of marked text, and its tokens told as numbers."""

from markedtext.faults import UNFINISHED, WRONG_MARK
from markedtext.modes import CLOSE_TOKEN, ENDED, FAULT, OPEN_TOKEN, RAW, RUN_TOKEN, TEXT, step
from markedtext.signs import counted, is_mark, signs_of

# The spot of a mark, by the mode that takes it: text, the three sorts of values, behind =, raw text.
SPOTS = {0: 0, 12: 1, 13: 2, 14: 3, 11: 4, 22: 5}
SPOT_BEHIND_EQUALS = 4
SPOT_IN_RAW = 5


class Reader:
    """Reads one sign after another; at a fault, count is its place. Each mark is kept in spots with its spot.

    A token is kept as a tuple: (1, ended, name, attributes) for an open tag, (2, name) for a close tag, and its
    kind and signs for the others. Its place is not kept: no answer tells it.
    """

    def __init__(self):
        self.mode = TEXT
        self.count = 0
        self.tokens = []
        self.tag_name = []
        self.attributes = []
        self.attribute_name = []
        self.body = []
        self.run = []
        self.spots = []
        self.fault = 0

    def take(self, sign):
        if not is_mark(sign):
            step(self, sign)
        elif self.takes_mark():
            self.spots.append((sign, SPOTS[self.mode]))
            step(self, sign)
        else:
            self.fail(WRONG_MARK)
        if self.mode != FAULT:
            self.count += 1

    def finish(self):
        if self.mode == TEXT:
            self.end_run(RUN_TOKEN)
            self.mode = ENDED
        else:
            self.fail(UNFINISHED)

    def fail(self, kind):
        self.fault = kind
        self.mode = FAULT

    def takes_mark(self):
        return self.mode in SPOTS and (self.mode != RAW or self.tag_name == signs_of("calc"))

    def tell_run(self, kind):
        self.tokens.append((kind, self.run))
        self.run = []

    def end_run(self, kind):
        if self.run:
            self.tell_run(kind)

    def has_attribute(self):
        return any([attribute[0] == self.attribute_name for attribute in self.attributes])

    def end_attribute(self):
        self.attributes.append((self.attribute_name, self.run))
        self.attribute_name = []
        self.run = []

    def tell_open_tag(self, ended):
        self.tokens.append((OPEN_TOKEN, ended, self.tag_name, self.attributes))
        self.attributes = []

    def end_tag(self):
        self.tell_open_tag(0)
        if self.tag_name in (signs_of("calc"), signs_of("verb")):
            self.mode = RAW
        else:
            self.leave_tag()

    def end_ended_tag(self):
        self.tell_open_tag(1)
        self.leave_tag()

    def end_close_tag(self):
        self.tokens.append((CLOSE_TOKEN, self.tag_name))
        self.leave_tag()

    def leave_tag(self):
        self.tag_name = []
        self.mode = TEXT


def read_text(text):
    """Read a text and its end, or as far as its first fault."""
    reader = Reader()
    for sign in text:
        reader.take(sign)
        if reader.mode == FAULT:
            return reader
    reader.finish()
    return reader


def told_open_tag(token):
    attributes = token[3]
    told = [OPEN_TOKEN, token[1]] + counted(token[2]) + [len(attributes)]
    for attribute in attributes:
        told.extend(counted(attribute[0]) + counted(attribute[1]))
    return told


def told_tokens(tokens):
    """How many tokens there are, and each of them."""
    told = [len(tokens)]
    for token in tokens:
        told.extend(told_open_tag(token) if token[0] == OPEN_TOKEN else [token[0]] + counted(token[1]))
    return told
