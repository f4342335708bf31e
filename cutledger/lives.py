"""Lives: deeds on a disk that has come back, and the steps by which they are done (point 9)."""

from cutledger.blocks import GREATEST, make_block
from cutledger.disks import (
    check_batch_of, epoch_behind, place_in_ring, place_of_page, stamp_behind, with_batch,
)
from cutledger.errors import BadBatch, BadDeeds, RingFull, TooMany
from cutledger.recovery import read_sound_image
from cutledger.values import is_tuple_of

MOST_DEEDS = 40
SYNC = ("sync",)
CHECK = ("check",)
TIDY = ("tidy",)


class Life:
    """A life at work on what its disk would be if all its steps were done.

    last is the last commit and standing the state behind it; at is the ring's next block, left how many
    blocks of the ring are left, fresh has the pages of the commits since the head. written has, for each
    write, how many steps there are up to its end, and its batch. A step whose block would need a number
    that is too great has None in the block's place, and is_over is set: so the steps can still be counted,
    and errors that come first can be told.
    """

    def __init__(self, shape, image, reading):
        self.shape = shape
        self.first_image = image
        self.first_commit = reading.last
        self.first_state = reading.state_of(reading.last)
        self.stamp = stamp_behind(image)
        self.epoch = epoch_behind(reading.labels)
        self.kinds = list(reading.kinds)
        self.head_place = reading.head_place
        self.last = reading.last
        self.standing = self.first_state
        self.at = reading.at
        self.left = reading.left
        self.fresh = {pair[0]: True for row in reading.log for pair in row[3]}
        self.steps = []
        self.deed_ends = []
        self.written = []
        self.is_over = False

    def put(self, place, label):
        """Write a block with a label to a place."""
        if max(self.stamp, self.epoch, self.last) > GREATEST:
            self.is_over = True
        block = None if self.is_over else make_block(self.stamp, label)
        self.stamp += 1
        self.kinds[place] = label[0]
        self.steps.append(("block", place, block))

    def do(self, deed):
        """Do a deed for which the ring has blocks enough."""
        if deed == SYNC:
            self.sync()
        elif deed == CHECK:
            self.check()
        elif deed == TIDY:
            self.tidy()
        else:
            self.write(deed[1])
        self.deed_ends.append(len(self.steps))

    def write(self, batch):
        """Commit a batch to the log."""
        self.last += 1
        for index, (number, page) in enumerate(batch):
            place = place_in_ring(self.shape, self.at + index)
            self.put(place, ("part", index, len(batch), self.epoch, self.last, number, page))
            self.fresh[number] = True
        self.at = (self.at + len(batch)) % self.shape[1]
        self.left -= len(batch)
        self.standing = with_batch(self.standing, batch)
        self.written.append((len(self.steps), batch))

    def sync(self):
        """Let all blocks that wait be done."""
        self.steps.append(SYNC)

    def check(self):
        """Copy the pages of the log to their places, and begin the log anew with another head."""
        self.sync()
        for number in sorted(self.fresh):
            page = self.standing[number]
            self.put(place_of_page(number), ("page", 0, 1, self.epoch, self.last, number, page))
        self.sync()
        place = 1 if self.head_place == 0 else 0
        self.put(place, ("head", 0, 1, self.epoch, self.last, self.at, ()))
        self.sync()
        self.head_place = place
        self.left = self.shape[1]
        self.fresh = {}

    def untidy(self):
        """The places, round the ring, of the blocks that are left and have something written to them."""
        places = [place_in_ring(self.shape, self.at + further) for further in range(self.left)]
        return [place for place in places if self.kinds[place] not in ("never", "blank")]

    def tidy(self):
        """Write blanks to the blocks of the ring that are left."""
        for place in self.untidy():
            self.put(place, ("blank", 0, 1, self.epoch, self.last, 0, ()))
        self.sync()

    def begin_anew(self):
        """Go on as a life that begins here, where no block waits, with the stamps and the epoch of this one."""
        self.first_image = self.disk()
        self.first_commit = self.last
        self.first_state = self.standing
        self.steps = []
        self.deed_ends = []
        self.written = []

    def disk(self):
        """The image when all steps are done."""
        image = list(self.first_image)
        for step in self.steps:
            if step[0] == "block":
                image[step[1]] = step[2]
        return tuple(image)


def is_deed(value, pages):
    """Whether a value is a deed for a store of so many pages."""
    if not is_tuple_of(value, 2, 2) or value[0] != "write":
        return value in (SYNC, CHECK, TIDY)
    try:
        check_batch_of(value[1], pages)
    except BadBatch:
        return False
    return True


def check_deeds(shape, deeds):
    """Raise BadDeeds for a value that is no deeds for a shape."""
    if not is_tuple_of(deeds, 0, MOST_DEEDS):
        raise BadDeeds(None)
    for index, deed in enumerate(deeds):
        if not is_deed(deed, shape[0]):
            raise BadDeeds(index)


def lived(shape, image, deeds):
    """The life of deeds; each error of its arguments is raised but TooMany, which check_numbers raises."""
    return lived_on(shape, image, read_sound_image(shape, image), deeds)


def lived_on(shape, image, reading, deeds):
    """The life of deeds on an image that has been read; the errors of the deeds are raised but TooMany."""
    check_deeds(shape, deeds)
    life = Life(shape, image, reading)
    for index, deed in enumerate(deeds):
        if deed[0] == "write" and len(deed[1]) > life.left:
            if life.is_over:
                # Of RingFull and TooMany the one that comes first in the order of the steps is raised.
                return life
            raise RingFull(index)
        life.do(deed)
    return life


def check_numbers(life):
    """Raise TooMany for a life that needs a stamp, an epoch or a commit that is too great."""
    if life.is_over:
        raise TooMany(GREATEST)


def lived_whole(shape, image, deeds):
    """The life of deeds that can all be done."""
    life = lived(shape, image, deeds)
    check_numbers(life)
    return life


def steps(shape, image, deeds):
    """The steps by which deeds are done."""
    return tuple(lived_whole(shape, image, deeds).steps)


def ends(shape, image, deeds):
    """For each deed, how many steps there are up to its end."""
    return tuple(lived_whole(shape, image, deeds).deed_ends)


def after(shape, image, deeds):
    """The image when all deeds are done."""
    return lived_whole(shape, image, deeds).disk()
