"""Data put at the marks of a text, where they then stand, and tokens filled with them."""

from markedtext.faults import MARK_IN_RAW, NOT_READ_FINE, PUT_TOO_LONG
from markedtext.modes import OPEN_TOKEN, RUN_TOKEN
from markedtext.reader import SPOT_BEHIND_EQUALS, SPOT_IN_RAW, read_text
from markedtext.refusals import NOT_REFUSED, refusal_of_marked
from markedtext.signs import HIGHEST_BYTE, QUOTE, is_mark
from markedtext.writing import BETWEEN_QUOTES, escape_of

LONGEST_PUT = 65536


def datum_of(data, mark):
    """The bytes a mark stands for: none where there is no such datum."""
    number = mark - HIGHEST_BYTE - 1
    return data[number] if number < len(data) else []


def written_form(content, spot):
    if spot == SPOT_BEHIND_EQUALS:
        return [QUOTE] + escape_of(BETWEEN_QUOTES, content) + [QUOTE]
    # The spots 0 to 3 have the numbers of the kinds of places they are in.
    return escape_of(spot, content)


def written_forms(data, spots):
    """The written form of each mark, in order."""
    # Each form is made once: a text may hold one mark at one spot hundreds of times.
    made = {}
    forms = []
    for spotted in spots:
        if spotted not in made:
            made[spotted] = written_form(datum_of(data, spotted[0]), spotted[1])
        forms.append(made[spotted])
    return forms


def put_length(text, forms):
    return len(text) - len(forms) + sum([len(form) for form in forms])


def refusal_of_reading(reading):
    if reading.fault != 0:
        return NOT_READ_FINE
    return MARK_IN_RAW if SPOT_IN_RAW in [spotted[1] for spotted in reading.spots] else NOT_REFUSED


class Putting:
    """What put, parts and fill are told from: the tokens of a text and its marks' written forms, unless refused."""

    def __init__(self, data, text):
        self.tokens = []
        self.forms = []
        self.refusal = refusal_of_marked(text)
        if self.refusal == NOT_REFUSED:
            self.use_reading(data, text, read_text(text))

    def use_reading(self, data, text, reading):
        self.refusal = refusal_of_reading(reading)
        if self.refusal == NOT_REFUSED:
            self.tokens = reading.tokens
            self.forms = written_forms(data, reading.spots)
            if put_length(text, self.forms) > LONGEST_PUT:
                self.refusal = PUT_TOO_LONG


def put_of(text, forms):
    """The text with its marks replaced by these forms, in order."""
    written = []
    taken = 0
    for sign in text:
        if is_mark(sign):
            written.extend(forms[taken])
            taken += 1
        else:
            written.append(sign)
    return written


def parts_of(text, forms):
    """For each mark where its form begins in the put, and the form's length, one behind another."""
    parts = []
    place = 0
    taken = 0
    for sign in text:
        length = 1
        if is_mark(sign):
            length = len(forms[taken])
            taken += 1
            parts.extend([place, length])
        place += length
    return parts


def filled_text(data, text):
    filled = []
    for sign in text:
        if is_mark(sign):
            filled.extend(datum_of(data, sign))
        else:
            filled.append(sign)
    return filled


def filled_token(data, token):
    if token[0] != OPEN_TOKEN:
        return (token[0], filled_text(data, token[1]))
    attributes = [(attribute[0], filled_text(data, attribute[1])) for attribute in token[3]]
    return (OPEN_TOKEN, token[1], token[2], attributes)


def filled_tokens(data, tokens):
    """The tokens with the data at their marks, without the runs of text that are empty then."""
    filled = [filled_token(data, token) for token in tokens]
    return [token for token in filled if token[0] != RUN_TOKEN or token[1]]
