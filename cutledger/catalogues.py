"""The catalogue: what a tree at page 0 tells of tables, indexes and guards.

Each of them is a row of bytes: what it is, a page or a number, and its names. As a value of a tree is short, the
row is divided; the parts stand under keys of the name and of the number of the part.
"""

from cutledger.cellcodes import KINDS
from cutledger.errors import BadName, NoTable
from cutledger.nodes import LONGEST_SHORT
from cutledger.schemas import LETTERS, is_name
from cutledger.trees import drop_from, entries, put_in

CATALOGUE = 0
TABLE = 1
INDEX = 2
GUARD = 3

# The last letter of a name has a mark added: so the name ends there, and a column's tells its kind, too.
MARK = 32


def name_code(name, kind):
    """The bytes of a name, with the number of a kind from 0."""
    places = [LETTERS.index(sign) + 1 for sign in name]
    return (*places[:-1], places[-1] + MARK * (kind + 1))


def names_code(names):
    """The bytes of names, one behind the other."""
    return tuple([byte for name in names for byte in name_code(name, 0)])


def read_names(row):
    """The pairs of name and number of a kind whose bytes a row has."""
    names = []
    letters = []
    for byte in row:
        letters.append(LETTERS[byte % MARK - 1])
        if byte > MARK:
            names.append(("".join(letters), byte // MARK - 1))
            letters = []
    return names


def table_row(schema, root):
    """The bytes that tell of a table."""
    row = [TABLE, root, schema[2]]
    for name, kind in schema[1]:
        row.extend(name_code(name, KINDS.index(kind)))
    return tuple(row)


def index_row(index, root):
    """The bytes that tell of an index."""
    return (INDEX, root, *names_code([index[1], *index[2]]))


def guard_row(guard):
    """The bytes that tell of a guard."""
    others = [] if guard[3] is None else [guard[3]]
    return (GUARD, len(others), *names_code([guard[1], *others, *guard[2]]))


def rows_by_name(pairs):
    """The row of bytes of each name that entries of a catalogue tell of."""
    rows = {}
    for key, value in pairs:
        name = read_names(key[:-1])[0][0]
        rows[name] = (*rows.get(name, ()), *value)
    return rows


class Catalogue:
    """What a catalogue tells, by name: pairs of schema and root, pairs of index and root, and guards."""

    def __init__(self, pages):
        self.held_tables = {}
        self.held_indexes = {}
        self.held_guards = {}
        rows = rows_by_name(entries(pages, CATALOGUE, None, None))
        for name in rows:
            self.tell(name, rows[name])

    def tell(self, name, row):
        """Take in what a row of bytes tells of a name."""
        if row[0] == TABLE:
            columns = tuple([(column, KINDS[kind]) for column, kind in read_names(row[3:])])
            self.held_tables[name] = ((name, columns, row[2]), row[1])
            return
        names = tuple([pair[0] for pair in read_names(row[2:])])
        if row[0] == INDEX:
            self.held_indexes[name] = ((name, names[0], names[1:]), row[1])
        elif row[1] == 0:
            self.held_guards[name] = (name, names[0], names[1:], None)
        else:
            self.held_guards[name] = (name, names[0], names[2:], names[1])

    def has(self, name):
        """Whether a table, an index or a guard has a name."""
        return name in self.held_tables or name in self.held_indexes or name in self.held_guards

    def table_called(self, name):
        """The schema and the root of a table; BadName or NoTable without one."""
        if not is_name(name):
            raise BadName()
        if name not in self.held_tables:
            raise NoTable(name)
        return self.held_tables[name]

    def index_called(self, name):
        """An index and its root; BadName or NoTable without one."""
        if not is_name(name):
            raise BadName()
        if name not in self.held_indexes:
            raise NoTable(name)
        return self.held_indexes[name]

    def indexes_of(self, name):
        """The pairs of index and root of a table, names rising."""
        pairs = [self.held_indexes[each] for each in sorted(self.held_indexes)]
        return [pair for pair in pairs if pair[0][1] == name]

    def guards_with(self, name):
        """The names of the guards that name a table."""
        guards = [self.held_guards[each] for each in sorted(self.held_guards)]
        return [guard[0] for guard in guards if name in (guard[1], guard[3])]


def row_entries(name, row):
    """The entries of the catalogue for the row of bytes of a name."""
    code = name_code(name, 0)
    parts = [row[begin:begin + LONGEST_SHORT] for begin in range(0, len(row), LONGEST_SHORT)]
    return [((*code, number), part) for number, part in enumerate(parts)]


def tell_more(pages, name, row):
    """Put the row of bytes of a name into the catalogue."""
    for key, part in row_entries(name, row):
        put_in(pages, CATALOGUE, key, part)


def tell_no_more(pages, name):
    """Take a name out of the catalogue."""
    code = name_code(name, 0)
    part = 0
    while drop_from(pages, CATALOGUE, (*code, part)):
        part += 1
