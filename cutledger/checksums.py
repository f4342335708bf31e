"""Checks of rows, and the flips of bits that they see (point 3)."""

from cutledger.bytecodes import LONGEST_ROW, check_row, fixed_code
from cutledger.errors import BadFlips, BadNumber, TooMany
from cutledger.values import is_integer, is_tuple_of

CHECK_BYTES = 2
MOST_FLIPS = 64
LONGEST_SEARCHED = 24

# x ** 12 + x ** 5 + 1, what is left of x ** 16 by the divisor.
DIVISOR_REST = 4129


def check_of(row):
    """The check of a row."""
    check_row(row)
    return rest_of(row)


def rest_of(row):
    """The rest of a row's polynomial times x ** 16 by the divisor, byte by byte."""
    rest = 0
    for byte in row:
        # The divisor has so few terms that what a whole byte leaves is told by a few shifts of it.
        ahead = (rest >> 8) ^ byte
        ahead = ahead ^ (ahead >> 4)
        rest = ((rest << 8) ^ (ahead << 12) ^ (ahead << 5) ^ ahead) & 65535
    return rest


def sealed(row):
    """A row with its check behind it."""
    check_row(row)
    if len(row) > LONGEST_ROW - CHECK_BYTES:
        raise TooMany(LONGEST_ROW)
    return (*row, *fixed_code(rest_of(row), CHECK_BYTES))


def is_sealed(row):
    """Whether a row ends in the check of what stands ahead of it."""
    check_row(row)
    return is_right(row)


def is_right(row):
    """Whether what is known to be a row is a sealed one."""
    # The rest of a row with its own check behind it is 0, and with no other.
    return len(row) >= CHECK_BYTES and rest_of(row) == 0


def check_flips(flips, many_bits):
    """Raise BadFlips for a value that is no flips among so many bits."""
    if not is_tuple_of(flips, 0, MOST_FLIPS):
        raise BadFlips()
    least = 0
    for flip in flips:
        if not is_integer(flip, least, many_bits - 1):
            raise BadFlips()
        least = flip + 1


def flipped(row, flips):
    """A row with these bits changed."""
    check_row(row)
    check_flips(flips, 8 * len(row))
    return with_flips(row, flips)


def with_flips(row, flips):
    """What flipped tells of what is known to be a row and flips of it."""
    changed_row = list(row)
    for flip in flips:
        at = flip // 8
        changed_row[at] = changed_row[at] ^ (128 >> (flip % 8))
    return tuple(changed_row)


def is_unseen(length, flips):
    """Whether flips of a sealed row of so many bytes leave it sealed."""
    if not is_integer(length, CHECK_BYTES, LONGEST_ROW):
        raise BadNumber()
    check_flips(flips, 8 * length)
    # Any sealed row would do; the one of noughts is one.
    return is_right(with_flips((0,) * length, flips))


def least_unseen(length):
    """How many flips of a sealed row of so many bytes are unseen at the fewest, and the least such ones."""
    if not is_integer(length, CHECK_BYTES, LONGEST_SEARCHED):
        raise BadNumber()
    rests = rests_of_bits(8 * length)
    bit_with = {rest: bit for bit, rest in enumerate(rests)}
    # Four flips are enough as soon as the divisor itself, which has four terms, has room.
    for many in range(1, 5):
        flips = least_flips(rests, bit_with, many, 0, 0)
        if flips is not None:
            return (many, flips)
    return None


def rests_of_bits(many_bits):
    """For each of so many bits, from the first one on, the rest by the divisor of it alone."""
    rests = []
    rest = 1
    for _ in range(many_bits):
        rests.append(rest)
        rest = rest << 1
        if rest > 65535:
            rest = (rest & 65535) ^ DIVISOR_REST
    return list(reversed(rests))


def least_flips(rests, bit_with, many, first, rest):
    """The least so many flips, from a bit on, whose rests together are this one, None without any.

    The rests of so few bits are all unlike, so the last flip is told by the rest that is left.
    """
    if many == 1:
        last = bit_with.get(rest, -1)
        return (last,) if last >= first else None
    for bit in range(first, len(rests)):
        others = least_flips(rests, bit_with, many - 1, bit + 1, rest ^ rests[bit])
        if others is not None:
            return (bit, *others)
    return None
