"""What the tests share: telling errors, values of wrong kinds, and disks made by hand."""

from itertools import product

from cutledger.blocks import block_of
from cutledger.disks import blank_disk, page_place, ring_place
from cutledger.errors import CutError

NEVER = (0,) * 128

# One value of each kind that may be passed for any argument, apart from integers.
NO_INTEGERS = [None, True, False, "", "1", "sync", (), (1,), ((),), (None,), [], [1], [[]], {}, {1: 2}, {"a": [1]}]
NO_TUPLES = [None, True, False, 0, 1, -1, 7, 10 ** 30, "", "1", "sync", [], [1], [[]], {}, {1: 2}, {"a": (1,)}]
ANYTHING = NO_INTEGERS + [0, 1, -1, 8, 10 ** 30, (1, 2), ("sync",), (("sync",),), ((1, 2), (3,)), [("sync",)]]


def told(function, *arguments):
    """What a call returns, or the name and the fields of the error that it raises."""
    try:
        return function(*arguments)
    except CutError as error:
        return (type(error).__name__, vars(error))


def fails(name, function, *arguments):
    """Whether a call raises an error of this name."""
    try:
        function(*arguments)
    except CutError as error:
        return type(error).__name__ == name
    return False


def bad(name, /, **fields):
    """What `told` tells of an error."""
    return (name, fields)


def with_blocks(shape, changes):
    """A blank disk with blocks at some places: a dict of place and block, or of place and (stamp, label)."""
    image = list(blank_disk(shape))
    for place, block in changes.items():
        image[place] = block if len(block) == 128 else block_of(*block)
    return tuple(image)


def on_ring(shape, rows):
    """Changes for with_blocks: the rows (number of the ring's block, stamp, label)."""
    return {ring_place(shape, number): (stamp, label) for number, stamp, label in rows}


def on_pages(rows):
    """Changes for with_blocks: the rows (number of a page, stamp, label)."""
    return {page_place((64, 2), number): (stamp, label) for number, stamp, label in rows}


def part(index, many, epoch, commit, number, content=()):
    return ("part", index, many, epoch, commit, number, content)


def page(epoch, commit, number, content=()):
    return ("page", 0, 1, epoch, commit, number, content)


def head(epoch, commit, number):
    return ("head", 0, 1, epoch, commit, number, ())


def blank(epoch, commit):
    return ("blank", 0, 1, epoch, commit, 0, ())


def all_fates(many):
    """Each tuple of fates of so many blocks."""
    return product(range(9), repeat=many)


def write(*pairs):
    """A deed that writes a batch."""
    return ("write", tuple(pairs))


SYNC = ("sync",)
CHECK = ("check",)
TIDY = ("tidy",)
