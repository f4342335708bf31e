"""The errors of the package: one class for each kind of failure, with the fields that tell of it."""


class CutError(ValueError):
    """The base class of all errors of the package."""


class BadRow(CutError):
    """A value that is no row (of bytes, or of a table)."""


class BadPlace(CutError):
    """A value that is no place of a row."""


class BadNumber(CutError):
    """A value that is no number that may stand here."""


class BadCode(CutError):
    """A code that cannot be read begins at a place of a row."""

    def __init__(self, at):
        self.at = at


class BadText(CutError):
    """A value that is no text."""


class BadThing(CutError):
    """A value that is no thing."""


class BadFlips(CutError):
    """A value that is no flips, or not of this row."""


class BadBlock(CutError):
    """A value that is no block."""


class BadLabel(CutError):
    """A value that is no label."""


class BadShape(CutError):
    """A value that is no shape."""


class BadImage(CutError):
    """A value that is no image, or the index of the first thing in it that is no block."""

    def __init__(self, index):
        self.index = index


class BadPage(CutError):
    """A value that is no page."""


class BadState(CutError):
    """A value that is no state."""


class BadBatch(CutError):
    """A value that is no batch, or the index of the first wrong thing in it."""

    def __init__(self, index):
        self.index = index


class Harmed(CutError):
    """An image of which a page is not told."""

    def __init__(self, page):
        self.page = page


class BadCommit(CutError):
    """A value that is no commit that may stand here."""


class BadDeeds(CutError):
    """A value that is no deeds, or the index of the first wrong one."""

    def __init__(self, index):
        self.index = index


class RingFull(CutError):
    """A write has more pages than the ring has blocks left."""

    def __init__(self, index):
        self.index = index


class BadCut(CutError):
    """A value that is no cut."""


class BadCount(CutError):
    """A value that is no count of steps."""


class BadRatio(CutError):
    """A value that is no ratio from 0 to 1."""


class BadStory(CutError):
    """A value that is no story, or the index of the first wrong life."""

    def __init__(self, index):
        self.index = index


class BadBatches(CutError):
    """A value that is no batches, or the index of the first wrong one."""

    def __init__(self, index):
        self.index = index


class BadString(CutError):
    """A value that is no string."""


class BadLine(CutError):
    """A word of a line that cannot stand there."""

    def __init__(self, line, word):
        self.line = line
        self.word = word


class TooMany(CutError):
    """More than there may be."""

    def __init__(self, most):
        self.most = most


class BadPages(CutError):
    """Values that make no page set."""


class NoRoom(CutError):
    """No page may be taken."""


class BadEntry(CutError):
    """A value that is no key or no value of a tree."""


class BadKey(CutError):
    """A value that is no key of a table or an index."""


class BadName(CutError):
    """A value that is no name."""


class BadSchema(CutError):
    """A value that is no schema, index or guard, or cannot stand here."""


class NoTable(CutError):
    """A name that no table, index or guard has."""

    def __init__(self, name):
        self.name = name


class Taken(CutError):
    """A name that is in use."""

    def __init__(self, name):
        self.name = name


class Clash(CutError):
    """Another work has changed what this one has looked at."""

    def __init__(self, table):
        self.table = table


class Ended(CutError):
    """A work that is over."""


class TooWide(CutError):
    """A batch with more pages than the ring has blocks."""


class BadWords(CutError):
    """A sign of a statement that cannot stand there."""

    def __init__(self, at):
        self.at = at


class BadQuestion(CutError):
    """A statement that cannot be answered on these tables."""


class Broken(CutError):
    """A guard that the rows would not keep."""

    def __init__(self, name):
        self.name = name


class BadHarm(CutError):
    """A value that is no harm, or the index of the first wrong pair."""

    def __init__(self, index):
        self.index = index
