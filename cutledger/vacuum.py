"""Pages that live: those of the catalogue and of the trees that it tells (point 52)."""

from cutledger.catalogues import CATALOGUE, Catalogue
from cutledger.disks import is_state
from cutledger.errors import BadState, NoRoom
from cutledger.pagesets import PageSet
from cutledger.tables import Tables
from cutledger.trees import nodes_of, packed


def check_state(state):
    """Raise BadState for a value that is no state."""
    if not is_state(state):
        raise BadState()


def roots_in(pages):
    """The roots of the catalogue and of all trees that it tells; none but the catalogue's if page 0 is void."""
    if pages.get(CATALOGUE) == ():
        return []
    told = Catalogue(pages)
    pairs = list(told.held_tables.values()) + list(told.held_indexes.values())
    return [CATALOGUE, *[root for _, root in pairs]]


def living(state):
    """The pages of the catalogue and of all trees that it tells."""
    check_state(state)
    pages = PageSet(state, ())
    numbers = [number for root in roots_in(pages) for number in nodes_of(pages, root)]
    return tuple(sorted(numbers)) if numbers else (CATALOGUE,)


def free_pages(state):
    """All pages but those that live."""
    lives = living(state)
    return tuple([number for number in range(len(state)) if number not in lives])


def page_set_of(state):
    """The page set of a state, its free pages void."""
    free = free_pages(state)
    kept = tuple([() if number in free else page for number, page in enumerate(state)])
    return PageSet(kept, free)


def tables_of(state):
    """The tables of a state."""
    return Tables(PageSet(state, free_pages(state)))


def tightened(state):
    """A state with the same tables and indexes, all trees packed, all other pages void."""
    pages = page_set_of(state)
    later = []
    for root in roots_in(pages):
        try:
            packed(pages, root)
        except NoRoom:
            # Packed, it needs more pages than it has; the trees behind it may leave some.
            later.append(root)
    for root in later:
        packed(pages, root)
    return pages.whole_state()
