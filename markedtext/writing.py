"""How bytes are written in each of the four kinds of places."""

from markedtext.signs import AND, is_bare_sign, is_digit, is_letter, signs_of

BETWEEN_QUOTES = 1
BETWEEN_APOSTROPHES = 2
BARE = 3
KINDS = (0, 1, 2, 3)

# The one byte besides & that would end the place, for the kinds 0, 1 and 2.
ENDING_BYTES = (60, 34, 39)

# The bytes - . and _, which an escape for a bare place leaves as they are.
PLAIN_IN_BARE = (45, 46, 95)

ESCAPE_NAMES = {34: "&quot;", 38: "&amp;", 39: "&apos;", 60: "&lt;"}
SHORT_NAMES = {38: "&amp;", 60: "&lt;", 62: "&gt;"}


def may_stand(kind, byte):
    if kind == BARE:
        return is_bare_sign(byte)
    return byte != AND and byte != ENDING_BYTES[kind]


def decimal_reference(byte):
    return f"&#{byte};"


def escape_of_byte(kind, byte):
    if kind != BARE:
        return [byte] if may_stand(kind, byte) else signs_of(ESCAPE_NAMES[byte])
    if is_letter(byte) or is_digit(byte) or byte in PLAIN_IN_BARE:
        return [byte]
    return signs_of(decimal_reference(byte))


def shortest_of_byte(kind, byte):
    if may_stand(kind, byte):
        return [byte]
    return signs_of(SHORT_NAMES.get(byte, decimal_reference(byte)))


def escape_of(kind, content):
    written = []
    for byte in content:
        written.extend(escape_of_byte(kind, byte))
    return written


def shortest_form(kind, content):
    """The shortest form; there is none of no bytes for a bare place, which the caller refuses."""
    written = []
    for byte in content:
        written.extend(shortest_of_byte(kind, byte))
    return written


def value_length(kind, content):
    """How many signs a value has in its shortest form, with the quotes of the kinds that have them."""
    quotes = 0 if kind == BARE else 2
    return len(shortest_form(kind, content)) + quotes


def shortest_value(content):
    """The kind in which a value that holds these bytes has the fewest signs, and how many."""
    # Of kinds with equally many the one tried first is kept.
    kinds = [BARE, BETWEEN_QUOTES, BETWEEN_APOSTROPHES] if content else [BETWEEN_QUOTES, BETWEEN_APOSTROPHES]
    lengths = [value_length(kind, content) for kind in kinds]
    least = min(lengths)
    return [kinds[lengths.index(least)], least]
