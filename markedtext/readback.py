"""How the writing of one place is read back, and cut without breaking it."""

from markedtext.faults import UNEXPECTED, UNFINISHED, WRONG_REFERENCE
from markedtext.references import GOES_ON, WRONG, reference_step
from markedtext.signs import AND
from markedtext.writing import BARE, may_stand


class Back:
    """Reads a text of bytes back for a kind; at a fault, count is its place."""

    def __init__(self, kind):
        self.kind = kind
        self.count = 0
        self.content = []
        self.within = False
        self.body = []
        # The places that don't lie within a reference: where a cut may fall.
        self.bounds = [0]
        self.fault = 0

    def take(self, byte):
        if self.within:
            self.take_in_reference(byte)
        elif byte == AND:
            self.within = True
        elif may_stand(self.kind, byte):
            self.content.append(byte)
        else:
            self.fault = UNEXPECTED
        if self.fault == 0:
            self.count += 1
            if not self.within:
                self.bounds.append(self.count)

    def take_in_reference(self, byte):
        found = reference_step(self.body, byte)
        if found == WRONG:
            self.fault = WRONG_REFERENCE
        elif found != GOES_ON:
            self.content.append(found)
            self.body = []
            self.within = False

    def finish(self):
        if self.within or (self.kind == BARE and self.count == 0):
            self.fault = UNFINISHED


def read_back(kind, text):
    back = Back(kind)
    for byte in text:
        back.take(byte)
        if back.fault != 0:
            return back
    back.finish()
    return back


def cut_of(text, back, n):
    """The cut at n of a text that was read back without fault."""
    return text[:max([bound for bound in back.bounds if bound <= n])]
