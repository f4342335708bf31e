"""Page sets: a state of a store with changes that no commit has yet (point 40)."""

from cutledger.disks import is_page, is_state
from cutledger.errors import BadNumber, BadPage, BadPages, NoRoom
from cutledger.values import is_integer


def are_numbers_of(value, pages):
    """Whether a value is an ascending tuple of unlike numbers of so many pages."""
    if not isinstance(value, tuple):
        return False
    least = 0
    for number in value:
        if not is_integer(number, least, pages - 1):
            return False
        least = number + 1
    return True


class PageSet:
    """A state, and what its pages have become: standing has them as they are, spare those that may be taken."""

    def __init__(self, state, free):
        if not is_state(state) or not are_numbers_of(free, len(state)):
            raise BadPages()
        self.begun = state
        self.standing = list(state)
        self.spare = list(free)

    @property
    def free(self):
        """The pages that may be taken, ascending."""
        return tuple(self.spare)

    def check_number(self, number):
        """Raise BadNumber for a value that is not the number of a page."""
        if not is_integer(number, 0, len(self.begun) - 1):
            raise BadNumber()

    def get(self, number):
        """A page as it is."""
        self.check_number(number)
        return self.standing[number]

    def put(self, number, page):
        """Let a page be another one."""
        self.check_number(number)
        if not is_page(page):
            raise BadPage()
        self.standing[number] = page

    def take(self):
        """The least page that may be taken, which may not be taken any more."""
        if not self.spare:
            raise NoRoom()
        return self.spare.pop(0)

    def leave(self, number):
        """Let a page be void, and be taken again."""
        self.check_number(number)
        if number in self.spare:
            raise BadNumber()
        self.standing[number] = ()
        self.spare = sorted([*self.spare, number])

    def batch(self):
        """The numbers and pages that are not those of the state."""
        return tuple([(number, page) for number, page in enumerate(self.standing) if page != self.begun[number]])

    def whole_state(self):
        """The state with all changes."""
        return tuple(self.standing)

    def mark(self):
        """What back_to needs to come back to here."""
        return (tuple(self.standing), tuple(self.spare))

    def back_to(self, mark):
        """Let all be as it was when a mark was made."""
        self.standing = list(mark[0])
        self.spare = list(mark[1])
