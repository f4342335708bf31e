"""The disk: its shape, its places and its images; pages, states and batches (points 5 and 6)."""

from cutledger.blocks import GREATEST, LONGEST_CONTENT, has_noughts_alone, is_block, read_label, read_stamps
from cutledger.errors import BadBatch, BadImage, BadNumber, BadShape, BadState, TooMany
from cutledger.values import are_bytes, is_integer, is_tuple_of

MOST_PAGES = 64
LEAST_RING = 2
MOST_RING = 64
HEADS = 2
NEVER_WRITTEN = (0,) * 128

# Blanks have an epoch too, but it does not count for the next one.
KINDS_WITH_EPOCH = ("part", "page", "head")


def check_shape(shape):
    """Raise BadShape for a value that is no shape."""
    if not is_tuple_of(shape, 2, 2):
        raise BadShape()
    pages, ring = shape
    if not is_integer(pages, 1, MOST_PAGES) or not is_integer(ring, LEAST_RING, MOST_RING):
        raise BadShape()


def check_image(shape, image):
    """Raise BadImage for a value that is no image of what is known to be a shape."""
    many = how_many_blocks(shape)
    if not is_tuple_of(image, many, many):
        raise BadImage(None)
    for index, block in enumerate(image):
        if not is_block(block):
            raise BadImage(index)


def check_disk(shape, image):
    """Raise BadShape or BadImage unless these are a shape and an image of it."""
    check_shape(shape)
    check_image(shape, image)


def blocks(shape):
    """How many blocks the disk has."""
    check_shape(shape)
    return how_many_blocks(shape)


def how_many_blocks(shape):
    """How many blocks the disk of what is known to be a shape has."""
    pages, ring = shape
    return HEADS + pages + ring


def blank_disk(shape):
    """The image of a disk that was never written."""
    return (NEVER_WRITTEN,) * blocks(shape)


def page_place(shape, number):
    """The place on the disk of a page."""
    check_shape(shape)
    if not is_integer(number, 0, shape[0] - 1):
        raise BadNumber()
    return place_of_page(number)


def place_of_page(number):
    """The place on the disk of what is known to be the number of a page."""
    return HEADS + number


def ring_place(shape, number):
    """The place on the disk of a block of the ring."""
    check_shape(shape)
    if not is_integer(number, 0, shape[1] - 1):
        raise BadNumber()
    return place_in_ring(shape, number)


def place_in_ring(shape, number):
    """The place of a block of the ring, counted on round the ring if the number goes beyond it."""
    pages, ring = shape
    return HEADS + pages + number % ring


def next_stamp(shape, image):
    """1 more than the greatest stamp of any block."""
    check_disk(shape, image)
    stamp = stamp_behind(image)
    if stamp > GREATEST:
        raise TooMany(GREATEST)
    return stamp


def stamp_behind(image):
    """The next stamp of what is known to be an image, even if it is too great."""
    return 1 + max([max(read_stamps(block)) for block in image])


def next_epoch(shape, image):
    """1 more than the greatest epoch of the whole parts, pages and heads, 1 without any."""
    check_disk(shape, image)
    epoch = epoch_behind(read_labels(image))
    if epoch > GREATEST:
        raise TooMany(GREATEST)
    return epoch


def read_labels(image):
    """The labels of all blocks of what is known to be an image, None for those that are not whole."""
    return tuple([read_label(block) for block in image])


def epoch_behind(labels):
    """The next epoch of an image with these labels, even if it is too great."""
    epochs = [label[3] for label in labels if label is not None and label[0] in KINDS_WITH_EPOCH]
    return 1 + max(epochs, default=0)


def kinds(shape, image):
    """What each block is: "never", the kind of its label, or "torn"."""
    check_disk(shape, image)
    return kinds_with(image, read_labels(image))


def kinds_with(image, labels):
    """What each block of an image with these labels is."""
    return tuple([kind_with(block, label) for block, label in zip(image, labels)])


def kind_with(block, label):
    """What a block with a label, or with None, is."""
    if label is not None:
        return label[0]
    return "never" if has_noughts_alone(block) else "torn"


def is_page(value):
    """Whether a value is a page."""
    return are_bytes(value, 0, LONGEST_CONTENT)


def is_state(value):
    """Whether a value is a state of some shape."""
    return is_tuple_of(value, 1, MOST_PAGES) and all(is_page(page) for page in value)


def check_batch(batch):
    """Raise BadBatch for a value that is no batch."""
    if not is_tuple_of(batch, 1, MOST_PAGES):
        raise BadBatch(None)
    least = 0
    for index, pair in enumerate(batch):
        if not is_tuple_of(pair, 2, 2):
            raise BadBatch(index)
        number, page = pair
        if not is_integer(number, least, MOST_PAGES - 1) or not is_page(page):
            raise BadBatch(index)
        least = number + 1


def check_batch_of(batch, pages):
    """Raise BadBatch for a value that is no batch of a store of so many pages."""
    check_batch(batch)
    for index, (number, _) in enumerate(batch):
        if number >= pages:
            raise BadBatch(index)


def changed(state, batch):
    """The state in which the pages of a batch stand."""
    if not is_state(state):
        raise BadState()
    check_batch_of(batch, len(state))
    return with_batch(state, batch)


def with_batch(state, batch):
    """What changed tells of what are known to be a state and a batch of it."""
    pages = list(state)
    for number, page in batch:
        pages[number] = page
    return tuple(pages)
