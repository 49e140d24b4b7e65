"""References: & and a body and ; that stand for one byte."""

from markedtext.signs import HASH, HIGHEST_BYTE, SEMICOLON, SMALL_X, is_digit, is_letter

LONGEST_BODY = 4

# What a step within a reference answers when it answers no byte.
GOES_ON = -1
WRONG = -2

# The bodies amp, lt, gt, quot and apos.
NAMED_BODIES = {
    (97, 109, 112): 38,
    (108, 116): 60,
    (103, 116): 62,
    (113, 117, 111, 116): 34,
    (97, 112, 111, 115): 39,
}


def digit_value(sign):
    """What a hexadecimal digit is worth; 16 for every other sign, which no base here reaches."""
    if is_digit(sign):
        return sign - 48
    if 97 <= sign <= 102:
        return sign - 87
    if 65 <= sign <= 70:
        return sign - 55
    return 16


def number_of(digits, base):
    """The number the digits make; WRONG if one of them is no digit of the base or it's no byte."""
    number = 0
    for digit in digits:
        value = digit_value(digit)
        if value >= base:
            return WRONG
        number = number * base + value
    if number > HIGHEST_BYTE:
        return WRONG
    return number


def numbered_byte(body):
    """The byte of a body that begins with #."""
    hexadecimal = body[1:2] == [SMALL_X]
    digits = body[2:] if hexadecimal else body[1:]
    if not digits:
        return WRONG
    return number_of(digits, 16 if hexadecimal else 10)


def byte_of_body(body):
    if body[:1] == [HASH]:
        return numbered_byte(body)
    return NAMED_BODIES.get(tuple(body), WRONG)


def reference_step(body, sign):
    """Take one sign behind the &: the byte if the reference ends with it, else GOES_ON (the body grew) or WRONG."""
    if sign == SEMICOLON:
        return byte_of_body(body)
    if len(body) < LONGEST_BODY and (is_letter(sign) or is_digit(sign) or sign == HASH):
        body.append(sign)
        return GOES_ON
    return WRONG
