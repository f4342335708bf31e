"""Blocks of 128 bytes: their stamps, their labels and how they are torn (point 4)."""

from cutledger.bytecodes import fixed_code, read_fixed
from cutledger.checksums import CHECK_BYTES, rest_of
from cutledger.errors import BadBlock, BadLabel, BadNumber
from cutledger.values import are_bytes, is_integer, is_tuple_of

BLOCK_BYTES = 128
CELL_BYTES = 16
CELLS = 8
STAMP_BYTES = 4
CONTENT_AT = 18
LONGEST_CONTENT = 96
CHECK_AT = 122
LAST_STAMP_AT = 124

# The greatest stamp, and the greatest epoch and commit of a label.
GREATEST = 2 ** 32 - 1

# In the order of their codes, which begin at 1.
KINDS = ("part", "page", "head", "blank")


def is_block(value):
    """Whether a value is a block."""
    return are_bytes(value, BLOCK_BYTES, BLOCK_BYTES)


def check_block(block):
    """Raise BadBlock for a value that is no block."""
    if not is_block(block):
        raise BadBlock()


def is_label(value):
    """Whether a value is a label."""
    if not is_tuple_of(value, 7, 7):
        return False
    kind, index, many, epoch, commit, number, content = value
    return (
        kind in KINDS
        and is_integer(index, 0, 255) and is_integer(many, 0, 255)
        and is_integer(epoch, 0, GREATEST) and is_integer(commit, 0, GREATEST)
        and is_integer(number, 0, 65535)
        and are_bytes(content, 0, LONGEST_CONTENT)
    )


def block_of(stamp, label):
    """The block with a stamp and a label."""
    if not is_integer(stamp, 1, GREATEST):
        raise BadNumber()
    if not is_label(label):
        raise BadLabel()
    return make_block(stamp, label)


def make_block(stamp, label):
    """The block with what is known to be a stamp and a label."""
    kind, index, many, epoch, commit, number, content = label
    stamp_row = fixed_code(stamp, STAMP_BYTES)
    front = (
        *stamp_row, KINDS.index(kind) + 1, index, many, len(content),
        *fixed_code(epoch, 4), *fixed_code(commit, 4), *fixed_code(number, 2), *content,
    )
    front = front + (0,) * (CHECK_AT - len(front))
    return (*front, *fixed_code(rest_of(front), CHECK_BYTES), *stamp_row)


def stamps_of(block):
    """The first and the last stamp of a block."""
    check_block(block)
    return read_stamps(block)


def read_stamps(block):
    """The stamps of what is known to be a block."""
    return (read_fixed(block, 0, STAMP_BYTES), read_fixed(block, LAST_STAMP_AT, STAMP_BYTES))


def label_of(block):
    """The label of a block, None if it is not whole."""
    check_block(block)
    return read_label(block)


def read_label(block):
    """The label of what is known to be a block, None if it is not whole."""
    if not is_whole(block):
        return None
    content_end = CONTENT_AT + block[7]
    return (
        KINDS[block[4] - 1], block[5], block[6],
        read_fixed(block, 8, 4), read_fixed(block, 12, 4), read_fixed(block, 16, 2),
        block[CONTENT_AT:content_end],
    )


def is_whole(block):
    """Whether what is known to be a block is whole."""
    first, last = read_stamps(block)
    length = block[7]
    return (
        first == last and first != 0
        and 1 <= block[4] <= len(KINDS) and length <= LONGEST_CONTENT
        and not any(block[CONTENT_AT + length:CHECK_AT])
        and rest_of(block[:CHECK_AT]) == read_fixed(block, CHECK_AT, CHECK_BYTES)
    )


def is_never(block):
    """Whether a block was never written: whether all its bytes are 0."""
    check_block(block)
    return has_noughts_alone(block)


def has_noughts_alone(block):
    """Whether all bytes of what is known to be a block are 0."""
    return not any(block)


def torn(old, new, cells):
    """The block whose first so many cells are those of new, and the rest those of old."""
    check_block(old)
    check_block(new)
    if not is_integer(cells, 0, CELLS):
        raise BadNumber()
    return tear(old, new, cells)


def tear(old, new, cells):
    """What torn tells of what are known to be blocks and a number of cells."""
    return (*new[:CELL_BYTES * cells], *old[CELL_BYTES * cells:])
