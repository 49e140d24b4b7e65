"""What the reader does with a sign in each of its modes."""

from markedtext.faults import NAME_TOO_LONG, NAME_TWICE, UNEXPECTED, WRONG_RAW_END, WRONG_REFERENCE
from markedtext.references import GOES_ON, WRONG, reference_step
from markedtext.signs import (
    AND, APOSTROPHE, DASH, EQUALS, GREATER, LESS, QUOTE, SLASH,
    is_bare_sign, is_blank, is_mark, is_name_sign, is_small_letter,
)

TEXT = 0
REFERENCE_IN_TEXT = 1
REFERENCE_IN_QUOTES = 2
REFERENCE_IN_APOSTROPHES = 3
REFERENCE_IN_BARE = 4
BEHIND_LESS = 5
OPEN_NAME = 6
BEHIND_CLOSE = 7
CLOSE_NAME = 8
GAP = 9
ATTRIBUTE_NAME = 10
BEHIND_EQUALS = 11
IN_QUOTES = 12
IN_APOSTROPHES = 13
IN_BARE = 14
BEHIND_VALUE = 15
BEHIND_SLASH = 16
BEHIND_BANG = 17
COMMENT = 19
COMMENT_TWO_DASHES = 21
RAW = 22
RAW_BEHIND_LESS = 23
RAW_CLOSE = 24
ENDED = 25
FAULT = 26

RUN_TOKEN = 0
OPEN_TOKEN = 1
CLOSE_TOKEN = 2
COMMENT_TOKEN = 3
RAW_TOKEN = 4

BANG = 33
LONGEST_NAME = 32

# The mode a reference leads back to, by the mode within it.
BEHIND_REFERENCE = {1: 0, 2: 12, 3: 13, 4: 14}


def in_text(reader, sign):
    if sign == LESS:
        reader.end_run(RUN_TOKEN)
        reader.mode = BEHIND_LESS
    elif sign == AND:
        reader.mode = REFERENCE_IN_TEXT
    else:
        reader.run.append(sign)


def in_reference(reader, sign):
    found = reference_step(reader.body, sign)
    if found == WRONG:
        reader.fail(WRONG_REFERENCE)
    elif found != GOES_ON:
        reader.run.append(found)
        reader.body = []
        reader.mode = BEHIND_REFERENCE[reader.mode]


def behind_less(reader, sign):
    if is_small_letter(sign):
        reader.tag_name = [sign]
        reader.mode = OPEN_NAME
    elif sign == SLASH:
        reader.mode = BEHIND_CLOSE
    elif sign == BANG:
        reader.mode = BEHIND_BANG
    else:
        reader.fail(UNEXPECTED)


def lengthen(reader, name, sign):
    if len(name) == LONGEST_NAME:
        reader.fail(NAME_TOO_LONG)
    else:
        name.append(sign)


def go_on_in_tag(reader, sign):
    """What a sign behind a name or a value does that is no part of it."""
    if is_blank(sign):
        reader.mode = GAP
    elif sign == SLASH:
        reader.mode = BEHIND_SLASH
    elif sign == GREATER:
        reader.end_tag()
    else:
        reader.fail(UNEXPECTED)


def in_open_name(reader, sign):
    if is_name_sign(sign):
        lengthen(reader, reader.tag_name, sign)
    else:
        go_on_in_tag(reader, sign)


def behind_close(reader, sign):
    if is_small_letter(sign):
        reader.tag_name = [sign]
        reader.mode = CLOSE_NAME
    else:
        reader.fail(UNEXPECTED)


def in_close_name(reader, sign):
    if is_name_sign(sign):
        lengthen(reader, reader.tag_name, sign)
    elif sign == GREATER:
        reader.end_close_tag()
    else:
        reader.fail(UNEXPECTED)


def in_gap(reader, sign):
    if is_small_letter(sign):
        reader.attribute_name = [sign]
        reader.mode = ATTRIBUTE_NAME
    else:
        go_on_in_tag(reader, sign)


def in_attribute_name(reader, sign):
    if is_name_sign(sign):
        lengthen(reader, reader.attribute_name, sign)
    elif not (is_blank(sign) or sign in (SLASH, EQUALS, GREATER)):
        reader.fail(UNEXPECTED)
    elif reader.has_attribute():
        reader.fail(NAME_TWICE)
    elif sign == EQUALS:
        reader.mode = BEHIND_EQUALS
    else:
        reader.end_attribute()
        go_on_in_tag(reader, sign)


def behind_equals(reader, sign):
    if sign == QUOTE:
        reader.mode = IN_QUOTES
    elif sign == APOSTROPHE:
        reader.mode = IN_APOSTROPHES
    elif sign == AND:
        reader.mode = REFERENCE_IN_BARE
    elif is_mark(sign):
        reader.run.append(sign)
        reader.end_attribute()
        reader.mode = BEHIND_VALUE
    elif is_bare_sign(sign):
        reader.run.append(sign)
        reader.mode = IN_BARE
    else:
        reader.fail(UNEXPECTED)


def in_quoted(reader, sign, quote, reference_mode):
    if sign == quote:
        reader.end_attribute()
        reader.mode = BEHIND_VALUE
    elif sign == AND:
        reader.mode = reference_mode
    else:
        reader.run.append(sign)


def in_quotes(reader, sign):
    in_quoted(reader, sign, QUOTE, REFERENCE_IN_QUOTES)


def in_apostrophes(reader, sign):
    in_quoted(reader, sign, APOSTROPHE, REFERENCE_IN_APOSTROPHES)


def in_bare(reader, sign):
    if is_mark(sign) or is_bare_sign(sign):
        reader.run.append(sign)
    elif sign == AND:
        reader.mode = REFERENCE_IN_BARE
    elif is_blank(sign) or sign == GREATER:
        reader.end_attribute()
        go_on_in_tag(reader, sign)
    else:
        reader.fail(UNEXPECTED)


def behind_slash(reader, sign):
    if sign == GREATER:
        reader.end_ended_tag()
    else:
        reader.fail(UNEXPECTED)


def behind_bang(reader, sign):
    if sign == DASH:
        reader.mode = reader.mode + 1
    else:
        reader.fail(UNEXPECTED)


def in_comment(reader, sign):
    if sign == GREATER and reader.mode == COMMENT_TWO_DASHES:
        reader.tell_run(COMMENT_TOKEN)
        reader.mode = TEXT
    elif sign == DASH and reader.mode == COMMENT_TWO_DASHES:
        reader.run.append(DASH)
    elif sign == DASH:
        reader.mode = reader.mode + 1
    else:
        # Modes 19, 20 and 21 stand behind none, one and two dashes not yet in the run.
        reader.run.extend([DASH] * (reader.mode - COMMENT) + [sign])
        reader.mode = COMMENT


def in_raw(reader, sign):
    if sign == LESS:
        reader.mode = RAW_BEHIND_LESS
    else:
        reader.run.append(sign)


def in_raw_behind_less(reader, sign):
    if sign == SLASH:
        reader.mode = RAW_CLOSE
    elif sign == LESS:
        reader.run.append(LESS)
    else:
        reader.run.extend([LESS, sign])
        reader.mode = RAW


def in_raw_close(reader, sign):
    awaited = (reader.tag_name + [GREATER])[len(reader.body)]
    if sign != awaited:
        reader.fail(WRONG_RAW_END)
    elif sign == GREATER:
        reader.end_run(RAW_TOKEN)
        reader.body = []
        reader.end_close_tag()
    else:
        reader.body.append(sign)


STEPS = {
    0: in_text,
    1: in_reference,
    2: in_reference,
    3: in_reference,
    4: in_reference,
    5: behind_less,
    6: in_open_name,
    7: behind_close,
    8: in_close_name,
    9: in_gap,
    10: in_attribute_name,
    11: behind_equals,
    12: in_quotes,
    13: in_apostrophes,
    14: in_bare,
    15: go_on_in_tag,
    16: behind_slash,
    17: behind_bang,
    18: behind_bang,
    19: in_comment,
    20: in_comment,
    21: in_comment,
    22: in_raw,
    23: in_raw_behind_less,
    24: in_raw_close,
}


def step(reader, sign):
    """Do what the reader's mode does with a sign; a mark comes only where one is taken."""
    act = STEPS[reader.mode]
    act(reader, sign)
