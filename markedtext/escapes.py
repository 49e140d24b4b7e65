"""The calls on one object that holds data, and their answers."""

from markedtext.faults import CUT_BELOW_ZERO, NO_DATA, NO_SHORTEST_FORM, NOT_READ_BACK, TOO_MANY_DATA
from markedtext.putting import Putting, filled_tokens, parts_of, put_of
from markedtext.readback import cut_of, read_back
from markedtext.reader import read_text, told_tokens
from markedtext.refusals import NOT_REFUSED, refusal_of_bytes, refusal_of_marked, refusal_of_row, refusal_of_writing
from markedtext.signs import HIGHEST_BYTE, counted
from markedtext.writing import BARE, escape_of, shortest_form, shortest_value

MOST_DATA = 64
LONGEST_DATUM = 512


def begin(data, numbers, row):
    data.clear()
    return [0]


def datum(data, numbers, row):
    refusal = refusal_of_row(row, HIGHEST_BYTE, LONGEST_DATUM)
    if refusal != NOT_REFUSED:
        return [refusal]
    if len(data) == MOST_DATA:
        return [TOO_MANY_DATA]
    data.append(row)
    return [len(data)]


def drop(data, numbers, row):
    if not data:
        return [NO_DATA]
    data.pop()
    return [len(data)]


def escape(data, numbers, row):
    kind = numbers[0]
    refusal = refusal_of_writing(kind, row)
    if refusal != NOT_REFUSED:
        return [refusal]
    return counted(escape_of(kind, row))


def shortest(data, numbers, row):
    kind = numbers[0]
    refusal = refusal_of_writing(kind, row)
    if refusal != NOT_REFUSED:
        return [refusal]
    if kind == BARE and not row:
        return [NO_SHORTEST_FORM]
    return counted(shortest_form(kind, row))


def back(data, numbers, row):
    kind = numbers[0]
    refusal = refusal_of_writing(kind, row)
    if refusal != NOT_REFUSED:
        return [refusal]
    reading = read_back(kind, row)
    if reading.fault != 0:
        return [1, reading.fault, reading.count]
    return [0] + counted(reading.content)


def cut(data, numbers, row):
    kind = numbers[0]
    n = numbers[1]
    refusal = refusal_of_writing(kind, row)
    if refusal != NOT_REFUSED:
        return [refusal]
    if n < 0:
        return [CUT_BELOW_ZERO]
    reading = read_back(kind, row)
    if reading.fault != 0:
        return [NOT_READ_BACK]
    return counted(cut_of(row, reading, n))


def quotes(data, numbers, row):
    refusal = refusal_of_bytes(row)
    if refusal != NOT_REFUSED:
        return [refusal]
    return shortest_value(row)


def spots(data, numbers, row):
    refusal = refusal_of_marked(row)
    if refusal != NOT_REFUSED:
        return [refusal]
    reading = read_text(row)
    if reading.fault != 0:
        return [1, reading.fault, reading.count]
    told = [0, len(reading.spots)]
    for spotted in reading.spots:
        told.extend(list(spotted))
    return told


def put(data, numbers, row):
    putting = Putting(data, row)
    if putting.refusal != NOT_REFUSED:
        return [putting.refusal]
    return counted(put_of(row, putting.forms))


def parts(data, numbers, row):
    putting = Putting(data, row)
    if putting.refusal != NOT_REFUSED:
        return [putting.refusal]
    return [len(putting.forms)] + parts_of(row, putting.forms)


def fill(data, numbers, row):
    putting = Putting(data, row)
    if putting.refusal != NOT_REFUSED:
        return [putting.refusal]
    return told_tokens(filled_tokens(data, putting.tokens))


def tokens(data, numbers, row):
    refusal = refusal_of_marked(row)
    if refusal != NOT_REFUSED:
        return [refusal]
    reading = read_text(row)
    if reading.fault != 0:
        return [1, reading.fault, reading.count]
    return [0] + told_tokens(reading.tokens)


CALLS = {
    0: begin,
    1: datum,
    2: drop,
    3: escape,
    4: shortest,
    5: back,
    6: cut,
    7: quotes,
    8: spots,
    9: put,
    10: parts,
    11: fill,
    12: tokens,
}

# The calls that hand in no list, and how many whole numbers stand ahead of the list of the others, if any.
WITHOUT_ROW = (0, 2)
NUMBERS_AHEAD = {3: 1, 4: 1, 5: 1, 6: 2}


def answers(calls):
    """The answers of the calls, one behind another, each with how many numbers it has ahead of it."""
    data = []
    told = []
    place = 0
    while place < len(calls):
        call = calls[place]
        row_place = place + 1 + NUMBERS_AHEAD.get(call, 0)
        numbers = calls[place + 1:row_place]
        row = []
        place = row_place
        if call not in WITHOUT_ROW:
            place = row_place + 1 + calls[row_place]
            row = calls[row_place + 1:place]
        act = CALLS[call]
        told.extend(counted(act(data, numbers, row)))
    return told
