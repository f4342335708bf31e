"""Kinds of values, and the bytes of values in keys and in values of trees (point 44)."""

from cutledger.bytecodes import fixed_code, read_fixed
from cutledger.errors import BadRow
from cutledger.values import are_bytes, is_integer

NUMBER = "number"
TEXT = "text"
TRUTH = "truth"
KINDS = ("number", "text", "truth")

GREATEST = 1000000
NUMBER_BYTES = 3
LONGEST_TEXT = 10

# From the blank to the tilde, in the order of their codes, without the percent sign.
SIGNS = " !\"#$&'()*+,-./0123456789:;<=>?@ABCDEFGHIJKLMNOPQRSTUVWXYZ[\\]^_`abcdefghijklmnopqrstuvwxyz{|}~"


def is_kind(value):
    """Whether a value is a kind."""
    return isinstance(value, str) and value in KINDS


def width_of(kind):
    """How many bytes the values of a kind have at most."""
    if kind == NUMBER:
        return NUMBER_BYTES
    return LONGEST_TEXT + 1 if kind == TEXT else 1


def is_text(value):
    """Whether a value is of the kind text."""
    return isinstance(value, str) and len(value) <= LONGEST_TEXT and all(sign in SIGNS for sign in value)


def is_of_kind(kind, value):
    """Whether a value is of a kind."""
    if kind == NUMBER:
        return is_integer(value, -GREATEST, GREATEST)
    return is_text(value) if kind == TEXT else isinstance(value, bool)


def are_kinds(value):
    """Whether a value is a tuple of kinds."""
    return isinstance(value, tuple) and all(is_kind(kind) for kind in value)


def are_of_kinds(kinds, values):
    """Whether a value is a tuple of values of these kinds, one for each."""
    if not isinstance(values, tuple) or len(values) != len(kinds):
        return False
    return all(is_of_kind(kind, value) for kind, value in zip(kinds, values))


def row_key(kinds, values):
    """The bytes of values of kinds."""
    if not are_kinds(kinds) or not are_of_kinds(kinds, values):
        raise BadRow()
    return bytes_of(kinds, values)


def bytes_of(kinds, values):
    """What row_key tells of what are known to be kinds and values of them."""
    row = []
    for kind, value in zip(kinds, values):
        row.extend(bytes_of_one(kind, value))
    return tuple(row)


def bytes_of_one(kind, value):
    """The bytes of a value of a kind."""
    if kind == NUMBER:
        return fixed_code(value + GREATEST, NUMBER_BYTES)
    if kind == TEXT:
        return (*[SIGNS.index(sign) + 1 for sign in value], 0)
    return (1,) if value else (0,)


def row_of_key(kinds, key):
    """The values whose bytes these are."""
    if not are_kinds(kinds) or not are_bytes(key, 0, len(kinds) * (LONGEST_TEXT + 1)):
        raise BadRow()
    values = []
    at = 0
    for kind in kinds:
        value, at = read_value(kind, key, at)
        values.append(value)
    if at != len(key):
        raise BadRow()
    return tuple(values)


def read_value(kind, key, at):
    """The value of a kind whose bytes begin at a place, and the place behind it; BadRow if there is none."""
    if kind == TEXT:
        return read_text(key, at)
    end = at + width_of(kind)
    if end > len(key):
        raise BadRow()
    number = read_fixed(key, at, end - at)
    if kind == NUMBER and number <= 2 * GREATEST:
        return (number - GREATEST, end)
    if kind == TRUTH and number <= 1:
        return (number == 1, end)
    raise BadRow()


def read_text(key, at):
    """The text whose bytes begin at a place, and the place behind it; BadRow if there is none."""
    end = at
    while end < len(key) and key[end] > 0:
        end += 1
    places = key[at:end]
    if end == len(key) or len(places) > LONGEST_TEXT or any(place > len(SIGNS) for place in places):
        raise BadRow()
    return ("".join([SIGNS[place - 1] for place in places]), end + 1)
