"""What several calls refuse alike of the lists that are handed in."""

from markedtext.faults import NO_SUCH_KIND, OUT_OF_RANGE, TOO_MANY_MARKS, TOO_MANY_NUMBERS
from markedtext.signs import HIGHEST_BYTE, HIGHEST_SIGN, is_mark
from markedtext.writing import KINDS

LONGEST_TEXT = 4096
MOST_MARKS = 256

NOT_REFUSED = 0


def refusal_of_row(row, highest, longest):
    for number in row:
        if number < 0 or number > highest:
            return OUT_OF_RANGE
    return TOO_MANY_NUMBERS if len(row) > longest else NOT_REFUSED


def refusal_of_bytes(row):
    return refusal_of_row(row, HIGHEST_BYTE, LONGEST_TEXT)


def refusal_of_writing(kind, row):
    return refusal_of_bytes(row) if kind in KINDS else NO_SUCH_KIND


def refusal_of_marked(row):
    refusal = refusal_of_row(row, HIGHEST_SIGN, LONGEST_TEXT)
    if refusal == NOT_REFUSED and len([sign for sign in row if is_mark(sign)]) > MOST_MARKS:
        return TOO_MANY_MARKS
    return refusal
