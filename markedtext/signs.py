"""The signs of a text and the sorts they fall into."""

QUOTE = 34
HASH = 35
AND = 38
APOSTROPHE = 39
DASH = 45
SLASH = 47
SEMICOLON = 59
LESS = 60
EQUALS = 61
GREATER = 62
SMALL_X = 120

HIGHEST_BYTE = 255
HIGHEST_SIGN = 65535

BLANKS = (9, 10, 13, 32)
NEITHER_BLANK_NOR_BARE = (34, 38, 39, 60, 61, 62, 96)


def is_mark(sign):
    return sign > HIGHEST_BYTE


def is_blank(sign):
    return sign in BLANKS


def is_small_letter(sign):
    return 97 <= sign <= 122


def is_letter(sign):
    return is_small_letter(sign) or 65 <= sign <= 90


def is_digit(sign):
    return 48 <= sign <= 57


def is_name_sign(sign):
    return is_small_letter(sign) or is_digit(sign) or sign == DASH


def is_bare_sign(sign):
    return not (is_mark(sign) or is_blank(sign) or sign in NEITHER_BLANK_NOR_BARE)


def signs_of(written):
    return [ord(letter) for letter in written]


def counted(signs):
    return [len(signs)] + signs
