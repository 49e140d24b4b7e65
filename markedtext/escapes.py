"""The calls on one object that holds data, and their answers."""

from markedtext.faults import (
    CUT_BELOW_ZERO, NO_DATA, NO_SHORTEST_FORM, NO_SUCH_KIND, NOT_READ_BACK, OUT_OF_RANGE, TOO_MANY_DATA,
    TOO_MANY_MARKS, TOO_MANY_NUMBERS,
)
from markedtext.readback import cut_of, read_back
from markedtext.reader import read_text, told_tokens
from markedtext.signs import HIGHEST_BYTE, HIGHEST_SIGN, counted, is_mark
from markedtext.writing import BARE, KINDS, escape_of, shortest_form

MOST_DATA = 64
LONGEST_DATUM = 512
LONGEST_TEXT = 4096
MOST_MARKS = 256

NOT_REFUSED = 0


def refusal_of_row(row, highest, longest):
    for number in row:
        if number < 0 or number > highest:
            return OUT_OF_RANGE
    return TOO_MANY_NUMBERS if len(row) > longest else NOT_REFUSED


def refusal_of_writing(kind, row):
    if kind not in KINDS:
        return NO_SUCH_KIND
    return refusal_of_row(row, HIGHEST_BYTE, LONGEST_TEXT)


def refusal_of_marked(row):
    refusal = refusal_of_row(row, HIGHEST_SIGN, LONGEST_TEXT)
    if refusal == NOT_REFUSED and len([sign for sign in row if is_mark(sign)]) > MOST_MARKS:
        return TOO_MANY_MARKS
    return refusal


def begin(data, numbers, row):
    data.clear()
    return [0]


def datum(data, numbers, row):
    refusal = refusal_of_row(row, HIGHEST_BYTE, LONGEST_DATUM)
    if refusal != NOT_REFUSED:
        return [refusal]
    if len(data) == MOST_DATA:
        return [TOO_MANY_DATA]
    data.append(row)
    return [len(data)]


def drop(data, numbers, row):
    if not data:
        return [NO_DATA]
    data.pop()
    return [len(data)]


def escape(data, numbers, row):
    kind = numbers[0]
    refusal = refusal_of_writing(kind, row)
    if refusal != NOT_REFUSED:
        return [refusal]
    return counted(escape_of(kind, row))


def shortest(data, numbers, row):
    kind = numbers[0]
    refusal = refusal_of_writing(kind, row)
    if refusal != NOT_REFUSED:
        return [refusal]
    if kind == BARE and not row:
        return [NO_SHORTEST_FORM]
    return counted(shortest_form(kind, row))


def back(data, numbers, row):
    kind = numbers[0]
    refusal = refusal_of_writing(kind, row)
    if refusal != NOT_REFUSED:
        return [refusal]
    reading = read_back(kind, row)
    if reading.fault != 0:
        return [1, reading.fault, reading.count]
    return [0] + counted(reading.content)


def cut(data, numbers, row):
    kind = numbers[0]
    n = numbers[1]
    refusal = refusal_of_writing(kind, row)
    if refusal != NOT_REFUSED:
        return [refusal]
    if n < 0:
        return [CUT_BELOW_ZERO]
    reading = read_back(kind, row)
    if reading.fault != 0:
        return [NOT_READ_BACK]
    return counted(cut_of(row, reading, n))


def tokens(data, numbers, row):
    refusal = refusal_of_marked(row)
    if refusal != NOT_REFUSED:
        return [refusal]
    reading = read_text(row)
    if reading.fault != 0:
        return [1, reading.fault, reading.count]
    return [0] + told_tokens(reading.tokens)


CALLS = {0: begin, 1: datum, 2: drop, 3: escape, 4: shortest, 5: back, 6: cut, 12: tokens}

# The calls that hand in no list, and how many whole numbers stand ahead of the list of the others, if any.
WITHOUT_ROW = (0, 2)
NUMBERS_AHEAD = {3: 1, 4: 1, 5: 1, 6: 2}


def answers(calls):
    """The answers of the calls, one behind another, each with how many numbers it has ahead of it."""
    data = []
    told = []
    place = 0
    while place < len(calls):
        call = calls[place]
        row_place = place + 1 + NUMBERS_AHEAD.get(call, 0)
        numbers = calls[place + 1:row_place]
        row = []
        place = row_place
        if call not in WITHOUT_ROW:
            place = row_place + 1 + calls[row_place]
            row = calls[row_place + 1:place]
        act = CALLS[call]
        told.extend(counted(act(data, numbers, row)))
    return told
