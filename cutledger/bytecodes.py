"""Rows of bytes, and the codes of numbers, texts and things in them (point 2)."""

from cutledger.errors import BadCode, BadNumber, BadPlace, BadRow, BadText, BadThing, TooMany
from cutledger.values import are_bytes, is_integer

LONGEST_ROW = 4096
GREATEST_NUMBER = 10 ** 18
MOST_FIXED = 7
LONGEST_TEXT = 200
SIGNS = " 0123456789ABCDEFGHIJKLMNOPQRSTUVWXYZabcdefghijklmnopqrstuvwxyz_-.,:;!?'()+*/=<>@#&"
MOST_THINGS = 40
DEEPEST = 6

# The first bytes of the codes of the three kinds of things.
NUMBER_AHEAD = 0
TEXT_AHEAD = 1
TUPLE_AHEAD = 2


def check_row(row):
    """Raise BadRow for a value that is no row."""
    if not are_bytes(row, 0, LONGEST_ROW):
        raise BadRow()


def check_row_and_place(row, at):
    """Raise BadRow or BadPlace unless these are a row and a place of it."""
    check_row(row)
    if not is_integer(at, 0, len(row)):
        raise BadPlace()


def number_to(value):
    """The code of a number."""
    if not is_integer(value, 0, GREATEST_NUMBER):
        raise BadNumber()
    return number_code(value)


def number_code(value):
    """The code of what is known to be a number."""
    code = []
    while value > 127:
        code.append(value % 128 + 128)
        value = value // 128
    code.append(value)
    return tuple(code)


def number_from(row, at):
    """The number whose code begins at a place, and the place behind it."""
    check_row_and_place(row, at)
    return read_number(row, at)


def read_number(row, at):
    """What number_from tells of what is known to be a row and a place of it."""
    value = 0
    weight = 1
    for place in range(at, len(row)):
        byte = row[place]
        value = value + byte % 128 * weight
        weight = weight * 128
        if byte < 128:
            if value > GREATEST_NUMBER or (byte == 0 and place > at):
                raise BadCode(at)
            return (value, place + 1)
    raise BadCode(at)


def fixed_to(value, many):
    """A number as a row of so many bytes, the greatest place first."""
    if not is_integer(value, 0, GREATEST_NUMBER) or not is_integer(many, 1, MOST_FIXED):
        raise BadNumber()
    row = fixed_code(value, many)
    if read_fixed(row, 0, many) != value:
        raise BadNumber()
    return row


def fixed_code(value, many):
    """The last so many places to the base 256 of what is known to be a number."""
    places = []
    for _ in range(many):
        places.append(value % 256)
        value = value // 256
    return tuple(reversed(places))


def fixed_from(row, at, many):
    """The number in so many bytes from a place on, and the place behind it."""
    check_row_and_place(row, at)
    if not is_integer(many, 1, MOST_FIXED):
        raise BadNumber()
    if at + many > len(row):
        raise BadCode(at)
    return (read_fixed(row, at, many), at + many)


def read_fixed(row, at, many):
    """The number in so many bytes that are known to stand there."""
    value = 0
    for byte in row[at:at + many]:
        value = value * 256 + byte
    return value


def is_text(value):
    """Whether a value is a text."""
    return isinstance(value, str) and len(value) <= LONGEST_TEXT and all(sign in SIGNS for sign in value)


def text_to(text):
    """The code of a text."""
    if not is_text(text):
        raise BadText()
    return text_code(text)


def text_code(text):
    """The code of what is known to be a text."""
    return (*number_code(len(text)), *[SIGNS.find(sign) for sign in text])


def text_from(row, at):
    """The text whose code begins at a place, and the place behind it."""
    check_row_and_place(row, at)
    return read_text(row, at)


def read_text(row, at):
    """What text_from tells of what is known to be a row and a place of it."""
    length, begin = read_number(row, at)
    end = begin + length
    if length > LONGEST_TEXT or end > len(row):
        raise BadCode(at)
    marks = row[begin:end]
    if any(mark >= len(SIGNS) for mark in marks):
        raise BadCode(at)
    return ("".join([SIGNS[mark] for mark in marks]), end)


def is_thing(value, deep):
    """Whether a value is a thing with tuples within one another at most so deep."""
    if isinstance(value, tuple):
        return deep > 0 and len(value) <= MOST_THINGS and all(is_thing(part, deep - 1) for part in value)
    return is_integer(value, 0, GREATEST_NUMBER) or is_text(value)


def thing_to(thing):
    """The code of a thing."""
    if not is_thing(thing, DEEPEST):
        raise BadThing()
    code = thing_code(thing)
    if len(code) > LONGEST_ROW:
        raise TooMany(LONGEST_ROW)
    return tuple(code)


def thing_code(thing):
    """The code of what is known to be a thing, as a list."""
    if isinstance(thing, tuple):
        code = [TUPLE_AHEAD, *number_code(len(thing))]
        for part in thing:
            code.extend(thing_code(part))
        return code
    if isinstance(thing, str):
        return [TEXT_AHEAD, *text_code(thing)]
    return [NUMBER_AHEAD, *number_code(thing)]


def thing_from(row, at):
    """The thing whose code begins at a place, and the place behind it."""
    check_row_and_place(row, at)
    try:
        return read_thing(row, at, DEEPEST)
    except BadCode:
        # A part of a thing that cannot be read is told by the place of the whole.
        raise BadCode(at) from None


def read_thing(row, at, deep):
    """A thing with tuples at most so deep, and the place behind it."""
    ahead = row[at] if at < len(row) else None
    if ahead == NUMBER_AHEAD:
        return read_number(row, at + 1)
    if ahead == TEXT_AHEAD:
        return read_text(row, at + 1)
    if ahead == TUPLE_AHEAD and deep > 0:
        return read_tuple(row, at + 1, deep - 1)
    raise BadCode(at)


def read_tuple(row, at, deep):
    """A tuple of things from the code of how many they are on, and the place behind it."""
    many, place = read_number(row, at)
    if many > MOST_THINGS:
        raise BadCode(at)
    things = []
    for _ in range(many):
        thing, place = read_thing(row, place, deep)
        things.append(thing)
    return (tuple(things), place)
