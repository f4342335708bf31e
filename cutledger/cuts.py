"""Cuts: what waits, what a cut leaves, what is promised, and what can come back (points 11 and 12)."""

from cutledger.blocks import CELLS, tear
from cutledger.disks import with_batch
from cutledger.errors import BadCommit, BadCount, BadCut
from cutledger.lives import SYNC, check_numbers, lived
from cutledger.values import is_count, is_integer, is_tuple_of

LOST = 0
DONE = CELLS


class Moment:
    """What stands behind so many steps of a life.

    since is how many steps there are up to the last sync, waits the steps behind it, safe and whole the
    commits S and W, sizes how many parts each commit behind S has, up to W. The parts of those commits
    are the first blocks that wait: a write has no sync in its midst, so its parts wait together.
    """

    def __init__(self, life, count):
        self.life = life
        self.since = steps_to_last_sync(life.steps, count)
        self.waits = life.steps[self.since:count]
        self.safe = life.first_commit + len([end for end, _ in life.written if end <= self.since])
        self.whole = life.first_commit + len([end for end, _ in life.written if end <= count])
        self.sizes = [len(batch) for end, batch in life.written if self.since < end <= count]

    def image_left(self, fates):
        """The image that a cut here leaves with what are known to be fates."""
        image = list(self.life.first_image)
        for step in self.life.steps[:self.since]:
            if step != SYNC:
                image[step[1]] = step[2]
        for step, fate in zip(self.waits, fates):
            image[step[1]] = tear(image[step[1]], step[2], fate)
        return tuple(image)

    def commit_left(self, fates):
        """The commit that comes back behind a cut here with what are known to be fates."""
        commit = self.safe
        begin = 0
        for size in self.sizes:
            if fates[begin:begin + size] != (DONE,) * size:
                return commit
            commit += 1
            begin += size
        return commit

    def can_leave_commit(self, commit):
        """Whether a commit can come back behind a cut here."""
        return self.safe <= commit <= self.whole

    def fates_to(self, commit):
        """Fates that leave a commit that can come back: all blocks done, or but the first of the next commit."""
        fates = [DONE for _ in self.waits]
        if commit < self.whole:
            fates[sum(self.sizes[:commit - self.safe])] = LOST
        return tuple(fates)


def steps_to_last_sync(life_steps, count):
    """How many steps there are up to the last sync among the first so many, 0 without one."""
    many = count
    while many > 0 and life_steps[many - 1] != SYNC:
        many -= 1
    return many


def moment_at(shape, image, deeds, count):
    """The moment behind a count of steps; each error of these arguments is raised but TooMany."""
    life = lived(shape, image, deeds)
    if not is_integer(count, 0, len(life.steps)):
        raise BadCount()
    return Moment(life, count)


def whole_moment_at(shape, image, deeds, count):
    """The moment behind a count of steps; each error of these arguments is raised."""
    moment = moment_at(shape, image, deeds, count)
    check_numbers(moment.life)
    return moment


def are_fates(value, many):
    """Whether a value is fates of so many blocks."""
    return is_tuple_of(value, many, many) and all(is_integer(fate, LOST, DONE) for fate in value)


def moment_of_cut(life, cut):
    """The moment of a cut of a life; BadCut for a value that is none."""
    if not is_tuple_of(cut, 2, 2):
        raise BadCut()
    count, fates = cut
    if not is_integer(count, 0, len(life.steps)):
        raise BadCut()
    moment = Moment(life, count)
    if not are_fates(fates, len(moment.waits)):
        raise BadCut()
    return moment


def waiting(shape, image, deeds, count):
    """The places of the blocks that wait."""
    moment = whole_moment_at(shape, image, deeds, count)
    return tuple([step[1] for step in moment.waits])


def cut_image(shape, image, deeds, cut):
    """The image that a cut leaves."""
    life = lived(shape, image, deeds)
    moment = moment_of_cut(life, cut)
    check_numbers(life)
    return moment.image_left(cut[1])


def promise(shape, image, deeds, count):
    """The commits S, which no cut takes, and W, behind which none comes."""
    moment = whole_moment_at(shape, image, deeds, count)
    return (moment.safe, moment.whole)


def can_come(shape, image, deeds, count):
    """The pairs of commit and state of all that can come back behind cuts of a count."""
    moment = whole_moment_at(shape, image, deeds, count)
    state = moment.life.first_state
    commit = moment.life.first_commit
    told = [(commit, state)]
    for _, batch in moment.life.written:
        state = with_batch(state, batch)
        commit += 1
        told.append((commit, state))
    return tuple([pair for pair in told if moment.can_leave_commit(pair[0])])


def moment_and_commit(shape, image, deeds, count, commit):
    """The moment behind a count of steps, asked for a commit; each error of these arguments is raised."""
    moment = moment_at(shape, image, deeds, count)
    if not is_count(commit):
        raise BadCommit()
    check_numbers(moment.life)
    return moment


def fates_for(shape, image, deeds, count, commit):
    """Fates with which a commit comes back and as few blocks as can be are not done, None if it can't."""
    moment = moment_and_commit(shape, image, deeds, count, commit)
    if not moment.can_leave_commit(commit):
        return None
    return moment.fates_to(commit)


def shows_fates(shape, image, deeds, count, commit, value):
    """Whether a value is what fates_for may return."""
    moment = moment_and_commit(shape, image, deeds, count, commit)
    if not moment.can_leave_commit(commit):
        return value is None
    if not are_fates(value, len(moment.waits)) or moment.commit_left(value) != commit:
        return False
    return value.count(DONE) == moment.fates_to(commit).count(DONE)
