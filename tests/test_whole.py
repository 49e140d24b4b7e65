"""The reader, spots, put, parts and fill against the document's words written another way, over many short texts."""

import itertools
import re
import unittest

from calling import (
    AnswerCase, all_of, close, comment, datum, fill, parts, put, raw, run, several, spots, tag, tokens,
)

MARK = "[\u0100-\uffff]"
BYTE = "[\x00-\xff]"
BLANK = "[\t\n\r ]"
NAME = "[a-z][a-z0-9-]{0,31}+(?![a-z0-9-])"
REFERENCE = "&(?:amp|lt|gt|quot|apos|#[01]?[0-9]{1,2}|#2[0-4][0-9]|#25[0-5]|#x[0-9a-fA-F]{1,2});"
BARE = "[^\t\n\r \"&'<=>`\u0100-\uffff]"
QUOTED = f"\"(?:[^\"&]|{REFERENCE})*+\"|'(?:[^'&]|{REFERENCE})*+'"
VALUE = f"{QUOTED}|{MARK}|(?:{BARE}|{REFERENCE})(?:{BARE}|{MARK}|{REFERENCE})*+"
ATTRIBUTE = re.compile(f"{BLANK}+({NAME})(=(?:{VALUE}))?")

RUN = re.compile(f"(?:[^<&]|{REFERENCE})+")
OPEN = re.compile(f"<({NAME})((?:{BLANK}+{NAME}(?:=(?:{VALUE}))?+)*+){BLANK}*(/?)>")
CLOSE = re.compile(f"</({NAME})>")
COMMENT = re.compile(f"<!--({BYTE}*?)-->")
RAW = {
    "calc": re.compile("((?:[^<]|<(?![/\u0100-\uffff]))*)</calc>"),
    "verb": re.compile("((?:[\x00-;=-\xff]|<(?![/\u0100-\uffff]))*)</verb>"),
}

NAMES = {"amp": "&", "lt": "<", "gt": ">", "quot": "\"", "apos": "'"}
DATA = ["<a b='\"&amp; />", "", "-->"]
PIECES = ["a", "<a", " b=", "c", "\"", "'", "/", ">", "&lt;", "<calc>", "</calc>", "<verb>", "</verb>", "<!--", "-->",
          "\u0100", "\u0102", "\u0140"]


def content_of(written):
    def byte_of(found):
        body = found.group()[1:-1]
        if body in NAMES:
            return NAMES[body]
        return chr(int(body[2:], 16)) if body[1] == "x" else chr(int(body[1:]))

    return re.sub(REFERENCE, byte_of, written)


def told_of(text):
    """The tokens of a fine text, each a tuple, and the place and spot of each of its marks; None if it isn't fine."""
    told = []
    marks = []
    place = 0

    def note(begin, end, spot):
        marks.extend((begin + found.start(), spot) for found in re.finditer(MARK, text[begin:end]))

    while place < len(text):
        found = RUN.match(text, place)
        if found:
            note(found.start(), found.end(), 0)
            told.append((0, content_of(found.group())))
        elif CLOSE.match(text, place):
            found = CLOSE.match(text, place)
            told.append((2, found.group(1)))
        elif COMMENT.match(text, place):
            found = COMMENT.match(text, place)
            told.append((3, found.group(1)))
        else:
            found = OPEN.match(text, place)
            if not found:
                return None
            attributes = []
            for attribute in ATTRIBUTE.finditer(text, found.start(2), found.end(2)):
                value = (attribute.group(2) or "")[1:]
                spot = 4 if re.fullmatch(MARK, value) else {"\"": 1, "'": 2}.get(value[:1], 3)
                note(attribute.start(2), attribute.end(2), spot)
                attributes.append((attribute.group(1), content_of(value[1:-1] if spot in (1, 2) else value)))
            if len(set(name for name, _ in attributes)) < len(attributes):
                return None
            told.append((1, found.group(1), attributes, len(found.group(3))))
            if found.group(1) in RAW and not found.group(3):
                name = found.group(1)
                found = RAW[name].match(text, found.end())
                if not found:
                    return None
                note(found.start(1), found.end(1), 5)
                told += [(4, found.group(1))] * (found.group(1) != "") + [(2, name)]
        place = found.end()
    return told, marks


def as_numbers(told):
    numbers = []
    for token in told:
        if token[0] == 1:
            numbers.append(tag(token[1], *token[2], ended=token[3]))
        else:
            numbers.append((run, None, close, comment, raw)[token[0]](token[1]))
    return all_of(*numbers)


def datum_of(mark):
    number = ord(mark) - 256
    return DATA[number] if number < len(DATA) else ""


def filled(written):
    return re.sub(MARK, lambda found: datum_of(found.group()), written)


def filled_tokens(told):
    changed = []
    for token in told:
        if token[0] == 1:
            attributes = [(name, filled(value)) for name, value in token[2]]
            changed.append((1, token[1], attributes, token[3]))
        elif token[0] != 0 or filled(token[1]):
            changed.append((token[0], filled(token[1])))
    return changed


def form_of(mark, spot):
    content = datum_of(mark)
    if spot == 3:
        return re.sub("[^a-zA-Z0-9_.-]", lambda found: f"&#{ord(found.group())};", content)
    content = content.replace("&", "&amp;")
    if spot == 0:
        return content.replace("<", "&lt;")
    if spot == 2:
        return content.replace("'", "&apos;")
    content = content.replace("\"", "&quot;")
    return "\"" + content + "\"" if spot == 4 else content


class Whole(AnswerCase):
    def expected_of(self, text, told, marks):
        written = ""
        begun = []
        place = 0
        for mark_place, spot in marks:
            written += text[place:mark_place]
            form = form_of(text[mark_place], spot)
            begun += [len(written), len(form)]
            written += form
            place = mark_place + 1
        written += text[place:]
        spotted = [number for mark_place, spot in marks for number in (ord(text[mark_place]), spot)]
        return [
            [0] + as_numbers(told), [0, len(marks)] + spotted, [len(written)] + [ord(sign) for sign in written],
            [len(marks)] + begun, as_numbers(filled_tokens(told)),
        ], written

    def check(self, text, data):
        answers = several(*data, tokens(text), spots(text), put(text), parts(text), fill(text))[len(data):]
        found = told_of(text)
        if found is None:
            self.assertEqual(answers[0][0], 1, text)
            self.assertEqual(answers[1:], [answers[0], [-10], [-10], [-10]], text)
            return 0
        told, marks = found
        expected, written = self.expected_of(text, told, marks)
        if 5 in [spot for _, spot in marks]:
            self.assertEqual(answers, expected[:2] + [[-11], [-11], [-11]], text)
            return 1
        self.assertEqual(answers, expected, text)
        # What was put in stands there as it is: the put is read as the filled tokens.
        self.assertEqual(several(tokens(written))[0], [0] + answers[4], text)
        return 1

    def test_short_texts(self):
        data = [datum(content) for content in DATA]
        fine = 0
        for many in range(4):
            for pieces in itertools.product(PIECES, repeat=many):
                fine += self.check("".join(pieces), data)
        self.assertGreater(fine, 500)

    def test_values(self):
        data = [datum(content) for content in DATA]
        fine = 0
        for many in range(5):
            for pieces in itertools.product(["\"", "'", "c", " ", "/", "&#9;", "\u0100", "\u0102", " d="], repeat=many):
                fine += self.check("<a b=" + "".join(pieces) + ">", data)
        self.assertGreater(fine, 200)

    def test_raw_elements(self):
        data = [datum(content) for content in DATA]
        fine = 0
        for name in ("calc", "verb", "cal"):
            for many in range(4):
                for pieces in itertools.product(["<", "/", "x", "\u0100", "&lt;", "</", "<!--", "-->"], repeat=many):
                    fine += self.check("\u0102<" + name + ">" + "".join(pieces) + "</" + name + ">\u0100", data)
        self.assertGreater(fine, 200)


if __name__ == "__main__":
    unittest.main()
