"""Which images the cuts of a life leave: whether one does, by which cut, and how many there are (point 14)."""

from cutledger.blocks import CELL_BYTES, CELLS, tear
from cutledger.cuts import DONE, LOST
from cutledger.disks import check_image
from cutledger.lives import SYNC, check_numbers, lived, lived_whole


def life_and_other(shape, image, deeds, other):
    """The life of deeds, asked for another image; each error of these arguments is raised."""
    life = lived(shape, image, deeds)
    check_image(shape, other)
    check_numbers(life)
    return life


def least_fate(old, new, other):
    """The least fate that leaves another block of an old and a new one, None without one."""
    for fate in range(LOST, DONE + 1):
        if tear(old, new, fate) == other:
            return fate
    return None


def places_unlike(image, other):
    """The places at which two images differ, as a dict of True."""
    return {place: True for place, block in enumerate(image) if block != other[place]}


def find_cut(life, other):
    """The cut with the least count that leaves another image, its fates the least; None without one."""
    image = list(life.first_image)
    unlike = places_unlike(image, other)
    fates = []
    if not unlike:
        return (0, ())
    for count, step in enumerate(life.steps, start=1):
        if step == SYNC:
            unlike = places_unlike(image, other)
            fates = []
        else:
            # No place is written twice between two syncs, so what stands there is what stood there at the last one.
            _, place, block = step
            fate = least_fate(image[place], block, other[place])
            fates.append(fate)
            image[place] = block
            unlike = {still: True for still in unlike if still != place or fate is None}
        if not unlike:
            return (count, tuple(fates))
    return None


def can_leave(shape, image, deeds, other):
    """Whether some cut leaves another image."""
    return find_cut(life_and_other(shape, image, deeds, other), other) is not None


def cut_to(shape, image, deeds, other):
    """The cut with the least count that leaves another image, and of these the one with the least fates, or None."""
    return find_cut(life_and_other(shape, image, deeds, other), other)


def how_many_tears(old, new):
    """How many unlike blocks there are that fates leave of an old and a new one."""
    return 1 + len([cell for cell in range(CELLS) if is_cell_new(old, new, cell)])


def is_cell_new(old, new, cell):
    """Whether two blocks differ in a cell."""
    begin = CELL_BYTES * cell
    return old[begin:begin + CELL_BYTES] != new[begin:begin + CELL_BYTES]


def count_images(shape, image, deeds):
    """The number of unlike images that cuts leave."""
    life = lived_whole(shape, image, deeds)
    standing = list(image)
    # Stamps rise, so of the images left behind two syncs only the one between them is the same.
    many = 1
    since_sync = 1
    for step in life.steps:
        if step == SYNC:
            many += since_sync - 1
            since_sync = 1
        else:
            _, place, block = step
            since_sync = since_sync * how_many_tears(standing[place], block)
            standing[place] = block
    return many + since_sync - 1
