"""Stories: lives one behind another, each cut somewhere, and what they keep (points 15 and 16)."""

from cutledger.cuts import moment_at, moment_of_cut
from cutledger.disks import blank_disk, check_shape, with_batch
from cutledger.errors import BadCut, BadDeeds, BadStory, RingFull
from cutledger.lives import lived_on
from cutledger.recovery import sound_reading
from cutledger.values import is_tuple_of

MOST_LIVES = 8


class Walk:
    """A story as far as it has been walked.

    last_image is the image that its last cut left, reading what it tells, last and standing the commit and the
    state that come back from it, batches those of the commits that came back. commits has, for each life, the
    commit that came back behind it, losses how many were lost; is_right tells whether each time what came back
    was promised.
    """

    def __init__(self, shape):
        self.shape = shape
        self.batches = ()
        self.come_back(blank_disk(shape))
        self.commits = []
        self.losses = []
        self.is_right = True

    def state_behind(self, batches):
        """The state behind batches, begun with void pages."""
        state = ((),) * self.shape[0]
        for batch in batches:
            state = with_batch(state, batch)
        return state

    def come_back(self, image):
        """Go on with an image, and with what comes back from it."""
        self.last_image = image
        self.reading = sound_reading(self.shape, image)
        self.last = self.reading.last
        self.standing = self.reading.state_of(self.last)

    def live(self, deeds, cut):
        """Live once more and be cut; the errors of the deeds and of the cut are raised."""
        life = lived_on(self.shape, self.last_image, self.reading, deeds)
        moment = moment_of_cut(life, cut)
        self.come_back(moment.image_left(cut[1]))
        self.batches = (*self.batches, *[batch for _, batch in life.written])[:self.last]
        self.commits.append(self.last)
        self.losses.append(moment.whole - self.last)
        if not moment.safe <= self.last <= moment.whole or self.standing != self.state_behind(self.batches):
            self.is_right = False


def walked(shape, story):
    """The walk through a story; each error of these arguments is raised."""
    check_shape(shape)
    if not is_tuple_of(story, 0, MOST_LIVES):
        raise BadStory(None)
    walk = Walk(shape)
    for index, life in enumerate(story):
        if not is_tuple_of(life, 2, 2):
            raise BadStory(index)
        try:
            walk.live(life[0], life[1])
        except (BadDeeds, RingFull, BadCut):
            raise BadStory(index)
    return walk


def left(shape, story):
    """The image at the end of a story."""
    return walked(shape, story).last_image


def kept(shape, story):
    """For each life, the last commit that comes back behind it."""
    return tuple(walked(shape, story).commits)


def history(shape, story):
    """The batches of the commits that come back at the end."""
    return walked(shape, story).batches


def is_kept(shape, story):
    """Whether what comes back behind each life is what was promised."""
    return walked(shape, story).is_right


def reach(shape, story, deeds, count):
    """The commits that come back behind a story with one life more, for all cuts of a count."""
    walk = walked(shape, story)
    moment = moment_at(shape, walk.last_image, deeds, count)
    return tuple(range(moment.safe, moment.whole + 1))


def lost_by(shape, story):
    """For each life, how many of the commits that were whole at its cut don't come back behind it."""
    return tuple(walked(shape, story).losses)


def same_end(shape, one, other):
    """Whether what comes back behind two stories is alike."""
    first = walked(shape, one)
    second = walked(shape, other)
    return first.last == second.last and first.standing == second.standing
