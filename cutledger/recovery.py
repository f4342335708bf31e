"""What an image of a disk tells: its head, its log, and what comes back (points 7 and 8)."""

from cutledger.blocks import read_stamps
from cutledger.disks import HEADS, check_disk, kinds_with, place_in_ring, place_of_page, read_labels
from cutledger.errors import BadCommit, Harmed
from cutledger.values import is_integer


class Reading:
    """An image that is read: its head, and its log as far as it goes.

    first is the commit of the head and last the last one read; at is the ring's next block, and left
    how many blocks of the ring are left; ending tells why and where the log ends.
    """

    def __init__(self, shape, image):
        self.shape = shape
        self.labels = read_labels(image)
        self.kinds = kinds_with(image, self.labels)
        self.head = self.find_head(image)
        place, epoch, commit, number = self.head or (None, 0, 0, 0)
        self.head_place = place
        self.epoch = epoch
        self.first = commit
        self.last = commit
        self.at = number
        self.left = shape[1]
        self.log = []
        self.ending = self.read_all()

    def find_head(self, image):
        """The place, epoch, commit and number of the head, None without one."""
        head = None
        greatest = 0
        for place in range(HEADS):
            label = self.labels[place]
            if label is not None and label[0] == "head" and label[5] < self.shape[1]:
                stamp = read_stamps(image[place])[0]
                if stamp > greatest:
                    greatest = stamp
                    head = (place, label[3], label[4], label[5])
        return head

    def label_ahead(self, further):
        """The label of the block so much further round the ring than the next one."""
        return self.labels[place_in_ring(self.shape, self.at + further)]

    def read_all(self):
        """Read all commits of the log; why and at which block of the ring it ends."""
        while self.left > 0:
            ending = self.trouble_ahead()
            if ending is not None:
                return ending
            self.read_one()
        return ("full", None)

    def trouble_ahead(self):
        """Why and where the log ends here, None if another commit can be read."""
        word = self.trouble_with_first()
        if word is not None:
            return (word, self.at)
        first = self.label_ahead(0)
        for index in range(first[2]):
            label = self.label_ahead(index)
            if label is None or label[:5] != ("part", index, first[2], first[3], first[4]):
                return ("lacks", (self.at + index) % self.shape[1])
        if not self.has_right_pages(first[2]):
            return ("pages", self.at)
        return None

    def trouble_with_first(self):
        """What keeps the ring's next block from beginning a commit, None if nothing does."""
        kind = self.kinds[place_in_ring(self.shape, self.at)]
        if kind in ("never", "torn", "blank"):
            return kind
        label = self.label_ahead(0)
        if kind != "part" or label[1] != 0 or label[2] == 0 or label[4] != self.last + 1:
            return "other"
        if label[3] < self.epoch:
            return "elder"
        return "long" if label[2] > self.left else None

    def has_right_pages(self, many):
        """Whether the numbers of so many parts ahead rise and are pages of the shape."""
        least = 0
        for index in range(many):
            number = self.label_ahead(index)[5]
            if not is_integer(number, least, self.shape[0] - 1):
                return False
            least = number + 1
        return True

    def read_one(self):
        """Read the commit that stands ahead."""
        first = self.label_ahead(0)
        parts = [self.label_ahead(index) for index in range(first[2])]
        batch = tuple([(part[5], part[6]) for part in parts])
        self.epoch = first[3]
        self.last = first[4]
        self.log.append((self.last, self.epoch, self.at, batch))
        self.at = (self.at + len(batch)) % self.shape[1]
        self.left -= len(batch)

    def own_page(self, number):
        """What a page's own block tells: a commit and the page as of it; None if it tells nothing."""
        place = place_of_page(number)
        if self.kinds[place] == "never":
            return (0, ())
        label = self.labels[place]
        if label is None or label[0] != "page" or label[5] != number:
            return None
        return (label[4], label[6])

    def told_from(self, number):
        """The least commit as of which a page is told; Harmed if the last one read is too little."""
        commits = [row[0] for row in self.log if number in [pair[0] for pair in row[3]]]
        own = self.own_page(number)
        if own is not None and own[0] <= self.last:
            commits.append(max(own[0], self.first))
        if not commits:
            raise Harmed(number)
        return min(commits)

    def floor(self):
        """The least commit as of which all pages are told; Harmed if there is none."""
        return max([self.told_from(number) for number in range(self.shape[0])])

    def state_of(self, commit):
        """The state as of a commit that is known to be one from the floor on."""
        state = []
        for number in range(self.shape[0]):
            own = self.own_page(number)
            state.append(() if own is None else own[1])
        for row in self.log:
            if row[0] <= commit:
                for number, page in row[3]:
                    state[number] = page
        return tuple(state)


def read_image(shape, image):
    """The reading of an image; BadShape or BadImage if there can be none."""
    check_disk(shape, image)
    return Reading(shape, image)


def read_sound_image(shape, image):
    """The reading of an image that comes back; BadShape, BadImage or Harmed if there can be none."""
    check_disk(shape, image)
    return sound_reading(shape, image)


def sound_reading(shape, image):
    """The reading of what is known to be an image of a shape; Harmed if it doesn't come back."""
    reading = Reading(shape, image)
    reading.floor()
    return reading


def head_of(shape, image):
    """The head's place, epoch, commit and number, None without a head."""
    return read_image(shape, image).head


def log_of(shape, image):
    """The commits read: for each its number, its epoch, its first block of the ring and its batch."""
    return tuple(read_image(shape, image).log)


def end_of(shape, image):
    """Why, and at which block of the ring, the log ends."""
    return read_image(shape, image).ending


def used(shape, image):
    """How many blocks of the ring the commits read have."""
    reading = read_image(shape, image)
    return shape[1] - reading.left


def floor_of(shape, image):
    """The least commit as of which all pages are told."""
    return read_image(shape, image).floor()


def state_as_of(shape, image, commit):
    """The state as of a commit from the floor to the last one read."""
    reading = read_image(shape, image)
    if not is_integer(commit, reading.floor(), reading.last):
        raise BadCommit()
    return reading.state_of(commit)


def recovered(shape, image):
    """What comes back: the last commit read, and the state as of it."""
    reading = read_sound_image(shape, image)
    return (reading.last, reading.state_of(reading.last))


def sound(shape, image):
    """Whether an image is not harmed."""
    try:
        read_sound_image(shape, image)
    except Harmed:
        return False
    return True
