"""A store of pages at work: deeds one by one on a disk, which may be cut at any moment (point 10)."""

from cutledger.blocks import GREATEST
from cutledger.cuts import Moment, are_fates
from cutledger.disks import blank_disk, check_batch_of
from cutledger.errors import BadCommit, BadCut, BadNumber, RingFull, TooMany
from cutledger.lives import Life
from cutledger.recovery import read_sound_image
from cutledger.values import is_integer


class PageStore:
    """A store of pages at work.

    life begins anew behind each sync, so its first image and its first commit are safe, and all its steps
    are blocks that wait. oldest is the first commit whose state is kept, states has those from it on.
    """

    def __init__(self, shape, image=None):
        begun = blank_disk(shape) if image is None else image
        reading = read_sound_image(shape, begun)
        self.life = Life(shape, begun, reading)
        self.oldest = reading.floor()
        self.states = {commit: reading.state_of(commit) for commit in range(self.oldest, reading.last + 1)}

    @property
    def commit(self):
        """The last commit."""
        return self.life.last

    @property
    def state(self):
        """The state behind the last commit."""
        return self.life.standing

    @property
    def free(self):
        """How many blocks of the ring are left."""
        return self.life.left

    @property
    def waiting(self):
        """How many blocks that were written wait."""
        return len(self.life.steps)

    @property
    def sure(self):
        """The last commit that no cut now can take."""
        return self.life.first_commit

    def check_numbers(self, commit, many):
        """Raise TooMany if so many blocks, written as of a commit, need a number that is too great."""
        life = self.life
        if many > 0 and max(life.stamp + many - 1, life.epoch, commit) > GREATEST:
            raise TooMany(GREATEST)

    def write(self, batch):
        """Commit a batch; the number of the commit."""
        life = self.life
        check_batch_of(batch, life.shape[0])
        if len(batch) > life.left:
            raise RingFull(None)
        self.check_numbers(life.last + 1, len(batch))
        life.write(batch)
        self.states[life.last] = life.standing
        return life.last

    def sync(self):
        """Let all blocks that wait be done."""
        self.life.sync()
        self.life.begin_anew()

    def check(self):
        """Copy the pages of the log to their places, and begin the log anew."""
        life = self.life
        self.check_numbers(life.last, len(life.fresh) + 1)
        life.check()
        life.begin_anew()
        self.oldest = life.last
        self.states = {life.last: life.standing}

    def tidy(self):
        """Write blanks to the blocks of the ring that are left."""
        life = self.life
        self.check_numbers(life.last, len(life.untidy()))
        life.tidy()
        life.begin_anew()

    def read(self, number):
        """A page as it stands."""
        if not is_integer(number, 0, self.life.shape[0] - 1):
            raise BadNumber()
        return self.life.standing[number]

    def as_of(self, commit):
        """The state as of a commit that is kept."""
        if not is_integer(commit, self.oldest, self.life.last):
            raise BadCommit()
        return self.states[commit]

    def image(self):
        """The image if all was done."""
        return self.life.disk()

    def cut(self, fates):
        """The image that a cut now leaves; the store goes on as if there had been none."""
        moment = Moment(self.life, len(self.life.steps))
        if not are_fates(fates, len(moment.waits)):
            raise BadCut()
        return moment.image_left(fates)
